import PyProof.Rows.All
import Wide.All
import OpenK.AllK
import Wide.FinOn
import HandS.ForMost
import HandS.IsInst
import HandS.Rev
import PyProof.ReprRoads
import PyProof.CallFns
import HandS.EndBits
import HandS.Zip0
import HandS.Walk
import PyProof.Draws
import HandS.More
import HandS.WrittenGet
import HandS.Defaults
import HandS.Wide
import HandS.Conv
import HandS.TupAny
import HandS.Codes
import PyProof.ReprBulk
import HandS.Style
import HandS.NoneIn
import HandS.SortInts
import HandS.RaiseMore
import HandS.Dict
import PyProof.Rows.ReprOcc
import HandS.SetFor
import HandS.SetBool
import HandS.Strs
import HandS.Flow
import HandS.Gcd
import HandS.Zip
import KE.KDictZip
import HandS.TupMul
import KE.DataMinMax
import HandS.SortKw
import HandS.FStr
import KE.KxField
import KE.KDictCopyH
import KE.KDictPairs
import KE.SortUse
import KE.KNestM
import HandS.EndTab
import HandS.SortOrd
import PyProof.NeKinds
import HandS.Deep
import HandS.Exc
import HandS.ExcOwn
import HandS.ExcIs
import HandS.WordsExc
import HandS.TryOnly
import PySem.Challenge.RW_ringorders_k16_pairs_and_spans
set_option Elab.async false
set_option linter.all false
set_option maxRecDepth 100000
set_option maxHeartbeats 4000000
/-! Ringorders, the ground: promises of defs around which no repr runs, calls by keywords alone, repr of data. -/
namespace RO
open PySem PySem.Spec PyProof.Rows L2

/-- what a def keeps where nothing guards a repr around it -/
structure GOk (P : Program) (w : World) (K : PySem.W.Frag) (mg : Str → Option Value) (base : Heap) (CX : CXT) (k : Nat) (f : Addr) (fd : FuncData) (ps : List Str) (sp : Sp) : Prop where
  many : ∀ vs H Q E, sp vs H Q E → vs.length = ps.length
  runs : ∀ (A : Around) (out : List Env) (s : Shared) (H : Hp) (as : Args) (us : List Value) (vs : List V) (Q : VK) (E : XK),
    Room k A → A.guards = some [] → Env0 P w K mg base A out s H → BindsTo s fd as (ps.zip us) → Vals vs us → sp vs H Q E →
      codeAny (model P w) A (.call (.ref f) as) (CR CX out P w H s Q E) s

section
variable {P : Program} {w : World} {K : PySem.W.Frag} {mg : Str → Option Value} {base : Heap}

theorem GOk.of {CX : CXT} {k : Nat} {f : Addr} {fd : FuncData} {ps : List Str} {sp : Sp} (F : FnOk P w K mg base CX k f fd ps sp) : GOk P w K mg base CX k f fd ps sp :=
  { many := F.len
    runs := fun A out s H as us vs Q E hr _ => F.run A out s H as us vs Q E hr }
theorem GOk.up {CX : CXT} {j k : Nat} {f : Addr} {fd : FuncData} {ps : List Str} {sp : Sp} (F : GOk P w K mg base CX j f fd ps sp) (h : j ≤ k) : GOk P w K mg base CX k f fd ps sp :=
  { many := F.many
    runs := fun A out s H as us vs Q E hr => F.runs A out s H as us vs Q E (Room.mono hr h) }

/-- a def by its body, nothing guarding a repr -/
theorem GOk.body {x qual : Str} {st : Stmt} {f : Addr} {fd : FuncData} {N ps : List Str} {k : Nat} {sp : Sp} (F : Fun K x qual st f fd) (S : FnScope N ps (defScope st))
    (many : ∀ vs H Q E, sp vs H Q E → vs.length = ps.length)
    (hb : ∀ (cdv : Value) (A : Around) (out : List Env) (s : Shared) (H : Hp) (vs : List V) (Q : VK) (E : XK),
      Room k (A.deeper (envOfC qual (defScope st) s.heap.objs.size f cdv)) → A.guards = some [] → sp vs H Q E →
        ∃ t, PSs (cxOf CX0 P w K mg base N qual (defScope st) f cdv A out s H E).nox (defBody st) t ∧ t { nx := fun _ H' => Q .non H', rt := Q } (start N vs) H) :
    GOk P w K mg base CX0 (k + 1) f fd ps sp := by
  obtain ⟨oc, od, kV, doc, pm, an, cdv, ct, osl, e, lk, hcd⟩ := F.ex
  subst e
  constructor
  · exact many
  · intro A out s H as us vs Q E hr hG e0 hbd r hsp
    have h0 := many _ _ _ _ hsp
    have old : ∀ b o, base.get? b = some o → s.heap.get? b = some o := fun b o z => (e0.bs b o z).1
    have hK : K.In s.heap := e0.mod.kin.keeps old
    have hL : s.heap.NoLimit := e0.mod.nolimit.keeps old
    have kinds : ∀ y ∈ ps.zip us, (defScope st).names.lookup y.1 = some .local ∨
        ((defScope st).names.lookup y.1 = some .cell ∧ ((cellsFrom (s.heap.objs.size + 1) (defScope st).names []).lookup y.1).isSome = true) := by
      intro y hy
      cases S.par y.1 (List.of_mem_zip (show (y.1, y.2) ∈ ps.zip us from hy)).1 with
      | inl z => exact Or.inl z
      | inr z => exact Or.inr ⟨z, PySem.W.cellsFrom_some _ _ _ (Or.inl z)⟩
    apply codeAny_call_function hr.depth (hK _ _ lk) rfl S.co S.gen rfl (PySem.W.codeRec_of hK hcd)
    apply hbd
    apply wpAny_newFunctionEnv_cells S.kind kinds
    intro env he s1 x
    subst he
    refine ⟨hL.keeps x.toInCall.keep, codeAny_func ?_⟩
    obtain ⟨t, ht, hq⟩ := hb cdv A out s H vs Q E (hr.deeper _) hG hsp
    have J0 := inv_start (E := E) S hr.hd e0 h0 r x (CX := CX0)
    have done : ∀ {σ' : L2.St} {H' : Hp} {v : V} {u : Value} {s' : Shared}, Inv (cxOf CX0 P w K mg base N qual (defScope st) f cdv A out s H E) [] σ' H' s' → RelV v u → Q v H' → CE out P w H s Q u s' :=
      fun {σ' H' v u s'} J rv q => ⟨v, H', J.os, J.bare, J.base, J.hok, rv, q⟩
    apply wpAny_mono (ht.nox.run [] s1 (start N vs) H _ J0 hq)
    · intro fl s' hs
      match fl, hs with
      | .ret u, ⟨v, σ', H', J, rv, q⟩ => exact done J rv q
      | .next, ⟨σ', H', J, q⟩ => exact done (v := V.non) (u := Value.none) J rfl q
      | .brk, ⟨_, _, _, q⟩ => exact q.elim
      | .cont, ⟨_, _, _, q⟩ => exact q.elim
    · exact fun _ _ hs => hs
end

section
variable {X : Cx} {CX : CXT} {k : Nat} {f C : Addr} {fd : FuncData} {ps ks : List Str} {sp : Sp} {dvs : List V} {ds : List Value} {E : XK} {x m : Str} {p pos : Pos} {e o : Expr} {es : List Expr} {kws : List Keyword} {te ta : TE} {t tk : TA}

theorem GOk.goes {pins : List (Addr × Obj)} {σ : L2.St} {H : Hp} {s : Shared} {Q : VK} {as : Args} {us : List Value} {vs : List V} (F : GOk X.prog X.w X.K X.mg X.base CX k f fd ps sp) (hr : Room k X.A) (hG : X.A.guards = some []) (hx : Passes CX X E)
    (hb : BindsTo s fd as (ps.zip us)) (I : Inv X pins σ H s) (r : Vals vs us) (h : sp vs H Q E) : codeAny (model X.prog X.w) X.A (.call (.ref f) as) (fun r s' => match r with | .ok (.ret u) => EP X pins σ Q u s' | .ok _ => False | .error e => X.xe e s') s := by
  apply codeAny_mono (F.runs X.A X.stack s H as us vs Q E hr hG I.env0 hb r h)
  intro r s' hq
  match r, hq with
  | .error e, hq => exact hx pins σ H s e s' I hq
  | .ok (.ret u), hq => exact I.after hq
  | .ok .next, hq => exact hq.elim
  | .ok .brk, hq => exact hq.elim
  | .ok .cont, hq => exact hq.elim

/-- f(e, ..) where f keeps its promise if no repr is guarded -/
theorem pe_callG (F : GOk X.prog X.w X.K X.mg X.base CX k f fd ps sp) (hr : Room k X.A) (hG : X.A.guards = some []) (hg : Gl X x) (hm : X.mg x = some (.ref f)) (hk : PySem.W.keepIn X.K (.ref f) = true) (hb : Binds X.K fd ps ds) (hd : Vals dvs ds) (hx : Passes CX X E)
    (ha : PA X (e :: es) t) (hdb : (x == ("__debug__" : Str)) = false := by decide) (he : starEach (e :: es) X.env = (false, eval e X.env) :: starEach es X.env := by rfl)
    (hpl : (backTo pos (starEach es X.env)).any (·.1) = false := by rfl) : PE X (.Call (.Name x p) (e :: es) [] pos) (tCall sp dvs E t) := by
  constructor
  intro pins s σ H Q I h
  apply wpAny_Call_Name_kw
  apply ld_glob I hg hm _ hdb
  apply PySem.W.callWith_K (h₀ := X.base) I.ok.mod.kin hk _ he hpl
  apply thn (ha.run pos pins s σ H _ I h)
  rintro us s1 ⟨vs, H1, I1, r, q⟩
  refine ⟨I1.kIn, ?_⟩
  have r2 : Vals (vs ++ dvs) (us ++ ds) := r.append hd
  have hl : (us ++ ds).length = ps.length := r2.length.symm.trans (F.many _ _ _ _ q)
  show wpAny _ _ (call (.ref f) us) _ _ s1
  exact wpAny_call (codeAny_mono (F.goes hr hG hx (hb s1 us I1.kIn hl) I1 r2 q) fun r s' hq => by
    match r, hq with
    | .error e, hq => exact hq
    | .ok (.ret u), hq => exact hq)

/-- f(k = v, ..), nothing by place -/
theorem pe_callK0 {g : List Value → List Value → List Value} {gV : List V → List V → List V} (F : FnOk X.prog X.w X.K X.mg X.base CX k f fd ps sp) (hr : Room k X.A) (hg : Gl X x) (hm : X.mg x = some (.ref f)) (hk : PySem.W.keepIn X.K (.ref f) = true)
    (hb : KBinds X.K fd ps ks g gV) (hx : Passes CX X E) (hkw : PK X kws tk) (hall : (backToKw pos (keywordEach kws X.env)).all (·.1.isSome) = true := by rfl) (hks : (backToKw pos (keywordEach kws X.env)).filterMap (·.1) = ks := by rfl)
    (hdb : (x == ("__debug__" : Str)) = false := by decide)
    (hpl : ((backTo pos (starEach [] X.env)).any (·.1) || (backToKw pos (keywordEach kws X.env)).any (·.1.isNone)) = false := by rfl) :
    PE X (.Call (.Name x p) [] kws pos) (tCallK sp gV E tNil tk) := by
  constructor
  intro pins s σ H Q I h
  apply wpAny_Call_Name_kw
  apply ld_glob I hg hm _ hdb
  apply PySem.W.callWith_KW0 (h₀ := X.base) I.ok.mod.kin hk hall _ hpl
  apply thn (hkw.run pos pins s σ H _ I h)
  rintro ws s1 ⟨zs, H1, I1, rz, q⟩
  refine ⟨I1.kIn, ?_⟩
  rw [hks]
  exact run_fnk (us := []) F hr hb hx I1 .nil rz q

/-! ### repr -/
/-- repr of data -/
def rRepr (K : PySem.W.Frag) : List V → Hp → VK → Prop := fun xs H Q => ∃ v d, xs = [v] ∧ Dp K H v d ∧ PyData.showable d = true ∧ d.hasDict = false ∧ d.depth ≤ 40 ∧ d.shown.length ≤ sizeLine ∧ Q (.str d.shown) H
theorem call_repr (hG : X.A.guards = some []) (hu : X.A.units + 64 < cLine) : CallR X (.builtin "repr") (rRepr X.K) := by
  intro pins s σ H xs us Q I r h
  obtain ⟨v, d, rfl, hd, hs, hn, h40, hz, q⟩ := h
  obtain ⟨u, rfl, ru⟩ := vals1 r
  have fin : ∀ (h' : Heap) (tk : Nat) (u : Tok), (∀ b o, s.heap.get? b = some o → h'.get? b = some o) → EP X pins σ Q (.str d.shown u) { s with heap := h', toks := tk } :=
    fun h' tk u hk => ⟨.str d.shown, H, I.un (Un.kept hk) (I.hok.kept hk), ⟨u, rfl⟩, q⟩
  obtain ⟨as, rd⟩ := Dp.reads I d v u hd ru
  cases hd with
  | non =>
    cases ru
    exact P.repr_of_none (fin s.heap _ _ fun _ _ z => z)
  | bl b =>
    cases ru
    refine P.repr_of_bool ?_
    have z := fin s.heap (s.toks + 1) s.toks fun _ _ z => z
    cases b <;> exact z
  | int i =>
    obtain ⟨t, rfl⟩ := ru
    refine P.repr_of_int ?_ ?_
    · simpa [PyData.showable] using hs
    · have z := fin s.heap (s.toks + 1) s.toks fun _ _ z => z
      simpa [PyData.shown] using z
  | str x =>
    obtain ⟨t, rfl⟩ := ru
    have z := fin s.heap (s.toks + 1) s.toks fun _ _ z => z
    simp only [PyData.shown_str] at z hz
    exact P.repr_of_str z hz
  | lst h1 h2 =>
    cases ru
    exact repr_of_reads' rd hs (PyData.noDict_hsm hn) hG (by omega) (fun _ _ z => z) (fun h' u tk hk => fin h' tk u hk) hz
  | tup h1 h2 =>
    cases ru
    exact repr_of_reads' rd hs (PyData.noDict_hsm hn) hG (by omega) (fun _ _ z => z) (fun h' u tk hk => fin h' tk u hk) hz
end
end RO

namespace RO
open PySem PySem.Spec PyProof.Rows L2

/-- the abstract heap at the law's entry: the script alone, locked, where the text itself doesn't hold it -/
def scriptH (K : PySem.W.Frag) (a : Addr) (o : Obj) (ns : List Int) : Hp := fun b => if b = a ∧ K.lookup a = none then some (.frz o (.lst (ns.map V.int))) else none

/-- the law's def is called as TURN's statement calls it -/
theorem law_runs {P : Program} {w : World} {K : PySem.W.Frag} {mg mb : Str → Option Value} {k : Nat} {fa a : Addr} {fd : FuncData} {x : Str} {sp : Sp} {s1 : Shared} {vs : List Value} {ns : List Int}
    (hK : K.In s1.heap) (hm : s1.heap.Ns mainGlobals mg) (hb : s1.heap.Ns builtinsNs mb) (hbb : ∀ y : Str, y ≠ "__name__" → mb y = bootBuiltins y) (hL : s1.heap.NoLimit) (hgn : s1.gens = #[])
    (ha : s1.heap.get? a = some { cls := .type "list", data := .seq vs.toArray }) (hi : IntsAre vs ns) (hn : ns.length ≤ sizeLine) (hr : Room k callerA)
    (F : ∀ base : Heap, K.In base → base.Ns mainGlobals mg → GOk P w K mg base CX0 k fa fd [x] sp) (hbd : ∀ (s : Shared) (u : Value), BindsTo s fd ⟨[u], []⟩ [(x, u)])
    (hsp : ∀ H : Hp, Only H → SqL K H a (ns.map V.int) → sp [.ref a] H (fun v _ => v = .bl true) fun _ _ _ => False) :
    codeAny (model P w) callerA (.call (.ref fa) ⟨[.ref a], []⟩) (fun r s' => r = .ok (.ret (.bool true)) ∧ OldK s1.heap s'.heap ∧ s'.os = s1.os ∧ AllBare s'.gens) s1 := by
  let ob : Obj := { cls := .type "list", data := .seq vs.toArray }
  let H : Hp := scriptH K a ob ns
  have hH : ∀ b u, H b = some u → b = a ∧ K.lookup a = none ∧ u = .frz ob (.lst (ns.map V.int)) := by
    intro b u z
    by_cases c : b = a ∧ K.lookup a = none
    · have z2 : (if b = a ∧ K.lookup a = none then some (HO.frz ob (.lst (ns.map V.int))) else none) = some u := z
      rw [if_pos c] at z2
      cases z2
      exact ⟨c.1, c.2, rfl⟩
    · have z2 : (if b = a ∧ K.lookup a = none then some (HO.frz ob (.lst (ns.map V.int))) else none) = some u := z
      rw [if_neg c] at z2
      cases z2
  have hOnly : Only H := fun b => by
    cases z : H b with
    | none => exact .inl rfl
    | some u => exact .inr ⟨ob, _, congrArg some (hH b u z).2.2⟩
  have rv := vals_ints hi
  have sizes : vs.length = ns.length := hi.length
  have hS : SqL K H a (ns.map V.int) := by
    cases z : K.lookup a with
    | some o =>
      have e := hK a o z
      rw [ha] at e
      cases e
      exact Or.inr ⟨_, vs.toArray, _, z, rfl, rfl, rfl, by rw [List.size_toArray, sizes]; exact hn, by simpa using rv⟩
    | none => exact Or.inl (Or.inr ⟨ob, if_pos ⟨rfl, z⟩⟩)
  have hOk : HOk P w H s1.heap := fun b u z => by
    obtain ⟨e1, _, e3⟩ := hH b u z
    subst e1
    subst e3
    exact ⟨ha, by rw [List.length_map]; exact hn, vs, _, rv, ha⟩
  have stays : ∀ {b : Addr} {o : Obj}, s1.heap.get? b = some o → H b = none → (hidT s1.heap H).get? b = some o := fun e n => hidT_get e n
  have keptK : K.In (hidT s1.heap H) := by
    intro b o z
    refine stays (hK b o z) ?_
    cases q : H b with
    | none => rfl
    | some u =>
      obtain ⟨e1, e2, _⟩ := hH b u q
      rw [e1, e2] at z
      cases z
  have keptN : ∀ {b : Addr} {m : Str → Option Value}, s1.heap.Ns b m → (hidT s1.heap H).Ns b m := by
    rintro b m ⟨o, es, ep, e, d, r⟩
    refine ⟨o, es, ep, stays e ?_, d, r⟩
    cases q : H b with
    | none => rfl
    | some u =>
      obtain ⟨e1, _, _⟩ := hH b u q
      rw [e1, ha] at e
      cases e
      exact nomatch (show Data.seq vs.toArray _ = Data.dict es ep from d)
  obtain ⟨mc, l1, l2⟩ := hL
  have start0 : Env0 P w K mg (hidT s1.heap H) callerA [] s1 H :=
    { frames := rfl
      mod := ⟨keptK, keptN hm, ⟨mb, keptN hb, hbb⟩, ⟨mc, keptN l1, l2⟩⟩
      bs := fun _ _ z => of_hidT z
      bsz := Nat.le_of_eq (hidT_size _ _)
      funs := trivial
      frf := fun b z => absurd (show b ∈ ([] : List Addr) from z) (by simp)
      hok := hOk
      bare := .of_eq hgn }
  apply codeAny_mono ((F _ keptK (keptN hm)).runs callerA [] s1 H ⟨[.ref a], []⟩ [.ref a] [.ref a] _ _ hr rfl start0 (hbd s1 (.ref a)) (.cons rfl .nil) (hsp H hOnly hS))
  intro r s' h
  match r, h with
  | .error _, h => exact h.elim
  | .ok .next, h => exact h.elim
  | .ok .brk, h => exact h.elim
  | .ok .cont, h => exact h.elim
  | .ok (.ret u), ⟨v, H', os, bare, un, hok', r', q⟩ =>
    have q' : v = .bl true := q
    subst q'
    have r2 : u = Value.bool true := r'
    subst r2
    refine ⟨rfl, OldK.of_keep fun b o e => ?_, os, bare⟩
    cases q : H b with
    | none => exact un.keep b o e q (by intro z; exact absurd (show b ∈ ([] : List Addr) from z) (by simp)) (by simp)
    | some t =>
      have q2 := q
      rw [(hH b t q).2.2] at q2
      have f1 := (hOk b _ q2).1
      have f2 := (hok' b _ (un.frzs b ob _ q2)).1
      rw [e] at f1
      rw [f2, f1]

/-- the goal behind the head, from the law's promise; the script's bits told -/
theorem walk_G {l : PySem.W.OpenLaw} {n k : Nat} {q : Program} {loose : List Str} {XP : (Str → Option Value) → Heap → Prop} {YP : World → Heap → Prop} {d : DefRec} {K : Params → PySem.W.Frag} {sp : PySem.W.Frag → Sp} {x : Str}
    (hn : l.most = some n) (hn2 : n ≤ sizeLine) (hdf : d.params.defaults = []) (hr : Room k callerA) (hY : ∀ (w : World) (h : Heap), YP w h → (K w.params).In h)
    (F : ∀ (w : World) (mg : Str → Option Value) (fa : Addr) (h : Heap), (K w.params).In h → h.Ns mainGlobals mg → mg d.name = some (.ref fa) →
      ∃ fd : FuncData, (∀ (s : Shared) (u : Value), BindsTo s fd ⟨[u], []⟩ [(x, u)]) ∧ ∀ base : Heap, (K w.params).In base → base.Ns mainGlobals mg → GOk l.prog w (K w.params) mg base CX0 k fa fd [x] (sp (K w.params)))
    (hsp : ∀ (K : PySem.W.Frag) (H : Hp) (a : Addr) (ns : List Int), ns.length ≤ n → (∀ k ∈ ns, Builtin.Int.intBits k ≤ 1048576) → Only H → SqL K H a (ns.map V.int) → sp K [.ref a] H (fun v _ => v = .bl true) fun _ _ _ => False) :
    PySem.W.WalkO q loose XP YP l.row.toRowW d [] (fun f vs => PySem.call f vs) := by
  apply Att.attach_callB hn hdf
  intro w s0 s1 mg mb fa o pm cd doc a vs ns G Y ho hd hcd hmg hobj hints hlen hbits hg
  have hK := hY w _ Y
  obtain ⟨fd, hb, hF⟩ := F w mg fa _ hK G.T.g hmg
  exact law_runs hK G.T.g G.T.b G.T.builtins G.T.nolimit hg hobj hints (Nat.le_trans hlen hn2) hr hF hb fun H hO hS => hsp (K w.params) H a ns hlen hbits hO hS
end RO

namespace RO
open PySem PySem.Spec PyProof.Rows L2

/-! ### enumerate of a tuple -/
theorem drawsT {prog : Program} {w : World} {A : Around} (hh : A.handled = none) (it t : Addr) (hne : t ≠ it) (items : Array Value) :
    Draws prog w A it [it, t] items.size (fun i v => items[i]? = some v) (fun i h => h.IsTupleIter it t i ∧ h.IsTuple t items) where
  live := fun _ _ st => by
    obtain ⟨⟨o, ho, _⟩, _⟩ := st
    exact ⟨o, ho⟩
  frame := fun i h h' st hk => ⟨Heap.IsTupleIter.at st.1 (hk it (List.mem_cons_self ..)), by
    obtain ⟨o, e, r⟩ := st.2
    exact ⟨o, hk t (by simp) o e, r⟩⟩
  item := fun i s Q E hi st hQ => RZ.nextOf_tuple_item st.1 st.2 (x := items[i]) (by simp [hi]) fun h' hit' sb =>
    hQ _ h' s.toks (by simp [hi]) ⟨hit', by
      obtain ⟨o, e, r⟩ := st.2
      exact ⟨o, (sb.2 t hne).trans e, r⟩⟩ sb
  done := fun s Q E st hE => RZ.nextOf_tuple_end hh st.1 st.2 (by simp) hE

open Sem (wp) in
open AutoSeq1 (wpAny_loadPart') in
theorem meets_enum_newT (l : Addr) (items : Array Value) (n : Nat) (dct : Option Addr) (sl : Array (Option Value)) :
    Meets (Builtin.«enumerate.__new__» ⟨[.type "enumerate", .ref l], []⟩) (fun _ R s => s.heap.get? l = some { cls := .type "tuple", dict := dct, data := .seq items n, slots := sl } ∧
      R (.ok (.ret (.ref (s.heap.push { cls := .type "tuple_iterator", data := .fields #[.ref l, .int 0 0] }).objs.size)))
        { s with heap := (s.heap.push { cls := .type "tuple_iterator", data := .fields #[.ref l, .int 0 0] }).push { cls := .type "enumerate", data := .fields #[.none, .bool false, .ref s.heap.objs.size, rawInt 0, .none, .none] } }) := by
  refine Meets.of_wp fun prog w A R s h => ?_
  obtain ⟨hp, g, d, tk, os⟩ := s
  obtain ⟨hl, h⟩ := h
  have hsub := sub_enumerate
  have hT : Heap.IsTuple (Shared.heap ⟨hp, g, d, tk, os⟩) l items := ⟨_, hl, rfl, n, rfl⟩
  wp_walk using wpAny_loadPart' hl
  refine wpAny_stack_any fun st => wpAny_pure ?_
  split
  · rename_i c _ _ _ _ _
    cases (c == Value.type "enumerate") <;>
      (wp_walk using wpAny_loadPart' hl, wpAny_pyIter_tuple hT; exact ⟨_, rfl, h⟩)
  · wp_walk using wpAny_loadPart' hl, wpAny_pyIter_tuple hT
    exact ⟨_, rfl, h⟩

theorem call_enumT {prog : Program} {w : World} {A : Around} {E : Value → Shared → Prop} {s : Shared} {l : Addr} {items : Array Value} {Q : Value → Shared → Prop} (hT : s.heap.IsTuple l items)
    (h : ∀ h', IsEnum h' (s.heap.objs.size + 1) s.heap.objs.size 0 .none → h'.IsTupleIter s.heap.objs.size l 0 → h'.objs.size = s.heap.objs.size + 2 → (∀ b o, s.heap.get? b = some o → h'.get? b = some o) →
      Q (.ref (s.heap.objs.size + 1)) { s with heap := h' }) : wpAny (model prog w) A (call (.type "enumerate") [.ref l]) Q E s := by
  obtain ⟨⟨c, dct, dt, sl⟩, hl, hc, n, hd⟩ := hT
  have hc' : c = .type "tuple" := hc
  have hd' : dt = .seq items n := hd
  subst hc' hd'
  apply callType_new F.called_enumerate (by decide) (F.typeCall_enumerate_1 _) (F.newCall_enumerate_1 _) (fun obj => F.args_object_init_2 obj _) F.entry_enumerate_new (meets_enum_newT l items n dct sl)
  refine ⟨hl, ?_⟩
  let h1 := s.heap.push { cls := .type "tuple_iterator", data := .fields #[.ref l, .int 0 0] }
  have hz : h1.objs.size = s.heap.objs.size + 1 := Heap.size_push ..
  show _ ∧ _
  rw [show (s.heap.push { cls := .type "tuple_iterator", data := .fields #[.ref l, .int 0 0] }).objs.size = s.heap.objs.size + 1 from hz]
  have he : IsEnum (h1.push { cls := .type "enumerate", data := .fields #[.none, .bool false, .ref s.heap.objs.size, rawInt 0, .none, .none] }) (s.heap.objs.size + 1) s.heap.objs.size 0 .none := by
    have z := Heap.get?_push_size h1 (o := { cls := .type "enumerate", data := .fields #[.none, .bool false, .ref s.heap.objs.size, rawInt 0, .none, .none] }) rfl
    rw [hz] at z
    exact z
  exact ⟨⟨_, he, rfl⟩, h _ he ⟨_, Heap.get?_push_of_some _ (Heap.get?_push_size _ rfl), rfl, rfl⟩ ((Heap.size_push ..).trans (congrArg (· + 1) hz)) fun b o x => Heap.get?_push_of_some _ (Heap.get?_push_of_some _ x)⟩

/-- the tuple at a, each item in a new pair with its number -/
def IteT (K : PySem.W.Frag) (a : Addr) : It where
  go := fun i H => ∃ (xs : List V) (x : V), SqT K H a xs ∧ xs[i]? = some x
  yld := fun i H v H' => ∃ T x, v = .ref T ∧ H T = none ∧ H' = upd H T (.tup [.int (i : Nat), x]) ∧ ∀ xs, SqT K H a xs → xs[i]? = some x
  stop := fun i H => ∃ xs : List V, SqT K H a xs ∧ xs.length = i

theorem turn_enumT {P : Program} {w : World} {K : PySem.W.Frag} {elts : List Expr} {kk : Nat} {tpos : Pos} (a e it : Addr) (hae : a ≠ e) (hai : a ≠ it) (hne : e ≠ it) :
    Turn P w K (.Tuple elts kk tpos) (IteT K a) [e, it] e (fun i h => (∃ old, IsEnum h e it ((i : Nat) : Int) old) ∧ h.IsTupleIter it a i) where
  mem := List.mem_cons_self ..
  obj := fun i h st b hb => by
    obtain ⟨⟨old, he⟩, ⟨o, ho, hc, hd⟩⟩ := st
    rcases List.mem_cons.mp hb with z | z
    · rw [z]
      exact ⟨_, he, fun v q => nomatch q⟩
    · have z' : b = it := by simpa using z
      exact ⟨o, z' ▸ ho, fun v q => by rw [hd] at q; cases q⟩
  keep := fun i h h' st k => by
    obtain ⟨⟨old, he⟩, hi⟩ := st
    exact ⟨⟨old, k e (by simp) _ he⟩, Heap.IsTupleIter.at hi (k it (by simp))⟩
  item := by
    intro X hP hw hK hc i pins s σ H E I hf st hg
    subst hP hw hK
    obtain ⟨⟨old, he⟩, hit⟩ := st
    obtain ⟨xs, x, hq, hx⟩ := hg
    obtain ⟨its, rv, p, hz⟩ := I.tuple hq
    obtain ⟨u, hu, ru⟩ := rv.get hx
    have hlt : i < its.toArray.size := by
      obtain ⟨z, _⟩ := List.getElem?_eq_some_iff.mp hu
      simpa using z
    have hel : e < s.heap.objs.size := Heap.lt_size he
    have hil : it < s.heap.objs.size := by
      obtain ⟨_, q, _⟩ := hit
      exact Heap.lt_size q
    refine wpAny_pyNext_enum_itemD (drawsT (A := X.A.in1) (I.ok.hd hc) it a hai its.toArray) he ⟨hit, p⟩ hlt hne (by simp [hne, Ne.symm hae]) fun y h' tk hy ho hst hT hsz hk => ?_
    have ey : y = u := by
      have z : its.toArray[i]? = some u := by simpa using hu
      exact Option.some.inj (hy.symm.trans z)
    subst ey
    refine ⟨_, rfl, wpAny_letOwnedTupleGo_enum (s := { s with heap := h', toks := tk + 1 }) ho fun h2 he2 sb => ?_⟩
    have hT2 : h2.get? s.heap.objs.size = some { cls := .type "tuple", data := .seq #[.int i tk, y] } := (sb.2 _ (Nat.ne_of_gt hel)).trans hT
    have new : ObjOk X.prog X.w (upd H s.heap.objs.size (.tup [.int (i : Nat), x])) h2 s.heap.objs.size (.tup [.int (i : Nat), x]) := by
      refine ⟨by show 2 ≤ sizeLine; decide, [.int i tk, y], .cons ⟨_, rfl⟩ (.cons ru .nil), ⟨_, hT2, rfl, _, rfl⟩⟩
    have I1 : Inv X pins σ (upd H s.heap.objs.size (.tup [.int (i : Nat), x])) { s with heap := h2, toks := tk + 1 } := by
      refine I.turnedNew (ch := [e, it]) (fun b ob hb q => ?_) hf (Nat.le_refl _) new
      have n1 : b ≠ e := fun z => hb (by simp [z])
      have n2 : b ≠ it := fun z => hb (by simp [z])
      exact (sb.2 b n1).trans (hk b ob n1 n2 q)
    refine ⟨.ref s.heap.objs.size, _, I1, rfl, ⟨_, x, rfl, I.hok.fresh (Nat.le_refl _), rfl, fun ys hy => (I.tuple_inj hy hq).symm ▸ hx⟩, ⟨⟨y, ?_⟩, Heap.IsTupleIter.at hst.1 fun o q => (sb.2 it (Ne.symm hne)).trans q⟩, fun b hb => ?_⟩
    · rw [show ((i + 1 : Nat) : Int) = (i : Int) + 1 from by omega]
      exact he2
    · have hb2 : b = e ∨ b = it := by simpa using hb
      have lt : b < s.heap.objs.size := hb2.elim (fun z => z ▸ hel) fun z => z ▸ hil
      exact (upd_ne (Nat.ne_of_lt lt)).trans (hf b hb).1
  done := by
    intro X hP hw hK hc i pins s σ H E I hf st hg
    subst hP hw hK
    obtain ⟨⟨old, he⟩, hit⟩ := st
    obtain ⟨xs, hq, hx⟩ := hg
    obtain ⟨its, rv, p, hz⟩ := I.tuple hq
    obtain ⟨f0, f1, f2, f3, f4, f5⟩ := hf it (by simp)
    have hl : its.toArray.size = i := by
      rw [List.size_toArray, ← rv.length, hx]
    rw [← hl] at hit
    exact wpAny_pyNext_enum_endD (drawsT (A := X.A.in1) (I.ok.hd hc) it a hai its.toArray) he ⟨hit, p⟩ fun h' eb => ⟨rfl, I.turned (t' := s.toks) (fun b o hb q => eb b o hb q) f0 f1 f3 f4 f5⟩
  self := fun A i s Q E st h => by
    obtain ⟨⟨_, he⟩, _⟩ := st
    exact wpAny_pyIter_enum he h

/-- enumerate(x), x a list or a tuple -/
def iEnumA (K : PySem.W.Frag) (ta : TA) : TI := fun σ H R => ta σ H fun vs H1 => ∃ a xs, vs = [.ref a] ∧ ((SqL K H1 a xs ∧ R (Ite K a) H1) ∨ (SqT K H1 a xs ∧ R (IteT K a) H1))
theorem pi_enumA {X : Cx} {e : Expr} {ta : TA} {p pos tpos : Pos} {elts : List Expr} {kk : Nat} (hg : Gl X "enumerate") (hm : X.mg "enumerate" = none) (ha : PA X [e] ta) (hs : starEach [e] X.env = [(false, eval e X.env)] := by rfl) :
    PI X (.Tuple elts kk tpos) (.Call (.Name "enumerate" p) [e] [] pos) (iEnumA X.K ta) := by
  constructor
  intro pins s σ H R I h
  refine Call_ ?_
  apply ld_blt I hg hm boot_enumerate
  apply PyProof.Rows.callWith_type1 _ hs rfl
  apply thn (ha.run pos pins s σ H _ I h)
  rintro us s1 ⟨vs, H1, I1, r1, a, xs, ex, q⟩
  subst ex
  obtain ⟨u, rfl, ru⟩ := vals1 r1
  obtain rfl : u = Value.ref a := ru
  have hle : ∀ b, b ∈ [s1.heap.objs.size + 1, s1.heap.objs.size] → FpOk X pins H1 b := fun b hb => by
    have z : b = s1.heap.objs.size + 1 ∨ b = s1.heap.objs.size := by simpa using hb
    have l : s1.heap.objs.size ≤ b := by omega
    exact I1.fpOk l (I1.hok.fresh l)
  rcases q with ⟨hq, q⟩ | ⟨hq, q⟩
  · obtain ⟨its, rv, p', hz⟩ := I1.list hq
    refine call_enumerate_list p'.isList fun h' he hit hsz hk => wpAny_pyIter_enum he ?_
    exact ⟨s1.heap.objs.size + 1, [s1.heap.objs.size + 1, s1.heap.objs.size], _, _, H1, rfl, I1.kept (t' := s1.toks) hk, turn_enum a (s1.heap.objs.size + 1) s1.heap.objs.size, ⟨⟨.none, he⟩, hit, Nat.succ_ne_self _⟩, hle, q⟩
  · obtain ⟨its, rv, p', hz⟩ := I1.tuple hq
    obtain ⟨o, ho, _⟩ := id p'
    have hal : a < s1.heap.objs.size := Heap.lt_size ho
    refine call_enumT p' fun h' he hit hsz hk => wpAny_pyIter_enum he ?_
    exact ⟨s1.heap.objs.size + 1, [s1.heap.objs.size + 1, s1.heap.objs.size], _, _, H1, rfl, I1.kept (t' := s1.toks) hk, turn_enumT a (s1.heap.objs.size + 1) s1.heap.objs.size (Nat.ne_of_lt (Nat.lt_succ_of_lt hal)) (Nat.ne_of_lt hal) (Nat.succ_ne_self _), ⟨⟨.none, he⟩, hit⟩, hle, q⟩

section
variable {K : PySem.W.Frag} {a : Addr} {xs : List V}
theorem walk_enumT : Walk (IteT K a) xs.length (fun H => SqT K H a xs) (YPair (fun i => some (.int (i : Nat))) (fun i => xs[i]?)) where
  goes := fun i _ hi q => ⟨xs, xs[i], q, by simp [hi]⟩
  stops := fun _ q => ⟨xs, q, rfl⟩
  yields := fun i H v H' _ q y => by
    obtain ⟨T, x, h1, h2, h3, h4⟩ := y
    exact ⟨T, _, x, h1, h2, h3, rfl, h4 xs q⟩
theorem walk_revT : Walk (RT.ItvT K a xs.length) xs.length (fun H => SqT K H a xs) (fun i H x H' => H' = H ∧ xs[xs.length - 1 - i]? = some x) where
  goes := fun i _ hi q => ⟨hi, xs, xs[xs.length - 1 - i], q, by
    have : xs.length - 1 - i < xs.length := by omega
    simp [this]⟩
  stops := fun _ _ => Nat.le_refl _
  yields := fun i H v H' _ q y => ⟨y.1, y.2 xs q⟩
end
end RO

namespace RO
open PySem PySem.Spec PyProof.Rows L2

/-! ### heaps -/
/-- what is tracked, but at p, is kept -/
def But (p : Addr) (H H' : Hp) : Prop := ∀ b o, b ≠ p → H b = some o → H' b = some o
section
variable {K : PySem.W.Frag} {H H0 H1 H2 : Hp} {p q a c l : Addr} {o : HO} {xs : List V} {n m : Nat}
theorem But.refl : But p H H := fun _ _ _ h => h
theorem But.trans (h : But p H H1) (h2 : But p H1 H2) : But p H H2 := fun b u n e => h2 b u n (h b u n e)
theorem But.of_same (h : Same H H1) : But p H H1 := fun b u _ e => h b u e
theorem But.put : But p H (upd H p o) := fun b u n e => (upd_ne n).trans e
theorem But.new (h : But p H0 H) (hq : H q = none) : But p H0 (upd H q o) := fun b u n e => (upd_ne (ne_of_none (h b u n e) hq)).trans (h b u n e)
/-- a place that was free at the beginning may be written -/
theorem But.own (h : But p H0 H) (hl : H0 l = none) : But p H0 (upd H l o) := fun b u n e => (upd_ne (ne_of_none e hl)).trans (h b u n e)
theorem But.rd {u : HO} (h : But p H H1) (n : a ≠ p) (r : Rd H a u) : Rd H1 a u := by
  rcases r with r | ⟨o, r⟩
  · exact .inl (h _ _ n r)
  · exact .inr ⟨o, h _ _ n r⟩
theorem But.seqL (h : But p H H1) (n : a ≠ p) (r : SqL K H a xs) : SqL K H1 a xs := r.imp (h.rd n) id
theorem But.seqT (h : But p H H1) (n : a ≠ p) (r : SqT K H a xs) : SqT K H1 a xs := r.imp (h.rd n) id
theorem same_rd {u : HO} (h : Same H H1) (r : Rd H a u) : Rd H1 a u := by
  rcases r with r | ⟨o, r⟩
  · exact .inl (h _ _ r)
  · exact .inr ⟨o, h _ _ r⟩
theorem same_seqL (h : Same H H1) (r : SqL K H a xs) : SqL K H1 a xs := r.imp (same_rd h) id
theorem same_seqT (h : Same H H1) (r : SqT K H a xs) : SqT K H1 a xs := r.imp (same_rd h) id
theorem same_new (h : Same H0 H) (hq : H q = none) : Same H0 (upd H q o) := fun b u e => (upd_ne (ne_of_none (h b u e) hq)).trans (h b u e)
theorem same_own (h : Same H0 H) (hl : H0 l = none) : Same H0 (upd H l o) := fun b u e => (upd_ne (ne_of_none e hl)).trans (h b u e)

theorem alloc (hl : H l = none) (e : upd H l o = H1) : Same H H1 ∧ H1 l = some o := by
  subst e
  exact ⟨same_new (Same.refl _) hl, upd_same⟩

theorem owned (S : Same H0 H) (hl : H0 l = none) (e : upd H l o = H1) : Same H0 H1 ∧ H1 l = some o := by
  subst e
  exact ⟨same_own S hl, upd_same⟩

/-! ### the law's pen: a list of the script's cells, a place, a rest -/
def PenAt (H : Hp) (p c : Addr) (n : Nat) : Prop := ∃ at_ cy : Int, H p = some (.lst [.ref c, .int at_, .int cy]) ∧ 0 ≤ at_ ∧ at_ ≤ n ∧ 0 ≤ cy
def Cells (K : PySem.W.Frag) (H : Hp) (p c : Addr) : Prop := c ≠ p ∧ ∃ ns : List Int, SqL K H c (ns.map V.int) ∧ ns.length ≤ 63
/-- from H0 to H: the pen at p has gone on to n draws at most, all else is kept -/
structure Go (K : PySem.W.Frag) (p c : Addr) (H0 : Hp) (n : Nat) (H : Hp) : Prop where
  but : But p H0 H
  pen : PenAt H p c n
  cel : Cells K H p c
theorem Cells.but (h : Cells K H p c) (b : But p H H1) : Cells K H1 p c := by
  obtain ⟨ne, ns, r, l⟩ := h
  exact ⟨ne, ns, b.seqL ne r, l⟩
theorem PenAt.mono (h : PenAt H p c n) (hm : n ≤ m) : PenAt H p c m := by
  obtain ⟨i, j, e, h1, h2, h3⟩ := h
  exact ⟨i, j, e, h1, by omega, h3⟩
theorem Go.refl (h : PenAt H p c n) (hc : Cells K H p c) : Go K p c H n H := ⟨But.refl, h, hc⟩
theorem Go.self (g : Go K p c H0 n H) : Go K p c H n H := ⟨But.refl, g.pen, g.cel⟩
theorem Go.mono (g : Go K p c H0 n H) (hm : n ≤ m) : Go K p c H0 m H := ⟨g.but, g.pen.mono hm, g.cel⟩
theorem Go.trans (g : Go K p c H0 n H1) (g2 : Go K p c H1 m H2) : Go K p c H0 m H2 := ⟨g.but.trans g2.but, g2.pen, g2.cel⟩
theorem Go.tracked (g : Go K p c H0 n H) : ∃ o, H p = some o := by
  obtain ⟨_, _, e, _⟩ := g.pen
  exact ⟨_, e⟩
theorem Go.ne_new (g : Go K p c H0 n H) (hq : H q = none) : p ≠ q := by
  obtain ⟨o, e⟩ := g.tracked
  exact ne_of_none e hq
theorem Go.make {i j : Int} (hc : Cells K H0 p c) (b : But p H0 H) (e : H p = some (.lst [.ref c, .int i, .int j])) (h1 : 0 ≤ i) (h2 : i ≤ (n : Nat)) (h3 : 0 ≤ j) : Go K p c H0 n H := ⟨b, ⟨i, j, e, h1, h2, h3⟩, hc.but b⟩
theorem Go.free (g : Go K p c H0 n H) (hq : H q = none) : H0 q = none := by
  cases z : H0 q with
  | none => rfl
  | some o => exact absurd (g.but q o (Ne.symm (g.ne_new hq)) z) (by rw [hq]; exact nofun)
/-- a new object -/
theorem Go.new (g : Go K p c H0 n H) (hq : H q = none) : Go K p c H0 n (upd H q o) := by
  have hp := g.ne_new hq
  obtain ⟨i, j, e, r⟩ := id g.pen
  have b1 : But p H (upd H q o) := But.refl.new hq
  exact ⟨g.but.new hq, ⟨i, j, (upd_ne hp).trans e, r⟩, g.cel.but b1⟩
/-- an own object is written: it was free at the beginning; the cells aren't it -/
theorem Go.own (g : Go K p c H0 n H) (hl : H0 l = none) (hp : l ≠ p) (hc : Cells K H0 p c) : Go K p c H0 n (upd H l o) := by
  obtain ⟨i, j, e, r⟩ := id g.pen
  exact ⟨g.but.own hl, ⟨i, j, (upd_ne (Ne.symm hp)).trans e, r⟩, hc.but (g.but.own hl)⟩
theorem Go.same (g : Go K p c H0 n H) (h : Same H H1) : Go K p c H0 n H1 := by
  obtain ⟨i, j, e, r⟩ := id g.pen
  exact ⟨g.but.trans (But.of_same h), ⟨i, j, h _ _ e, r⟩, g.cel.but (But.of_same h)⟩
end

/-! ### numbers -/
theorem fmod_lt {a b : Int} (h : 0 < b) : Int.fmod a b < b := Int.fmod_lt_of_pos a h
theorem fmod_ge {a b : Int} (h : 0 < b) : 0 ≤ Int.fmod a b := Int.fmod_nonneg_of_pos a h
theorem fdiv_ge {a b : Int} (h : 0 ≤ a) (h2 : 0 ≤ b) : 0 ≤ Int.fdiv a b := Int.fdiv_nonneg h h2

theorem atI_fmod {α : Type} {xs : List α} {i : Int} (h : 0 < xs.length) : ∃ v, v ∈ xs ∧ atI xs (Int.fmod i xs.length) = some v := by
  have h0 : (0 : Int) < xs.length := by omega
  have g := fmod_ge (a := i) h0
  have l := fmod_lt (a := i) h0
  obtain ⟨j, e⟩ := Int.eq_ofNat_of_zero_le g
  rw [e] at l ⊢
  have hj : j < xs.length := by omega
  exact ⟨xs[j], List.getElem_mem hj, atI_nat (List.getElem?_eq_getElem hj)⟩
theorem atI_lt {α : Type} {xs : List α} {i : Int} (h0 : 0 ≤ i) (h : i < xs.length) : ∃ v, v ∈ xs ∧ atI xs i = some v := by
  obtain ⟨j, rfl⟩ := Int.eq_ofNat_of_zero_le h0
  have hj : j < xs.length := by omega
  exact ⟨xs[j], List.getElem_mem hj, atI_nat (List.getElem?_eq_getElem hj)⟩

/-! ### data whose repr is short -/
structure RepOk (d : PyData) (k n : Nat) : Prop where
  sh : d.showable = true
  nd : d.hasDict = false
  dp : d.depth ≤ k
  lv : d.leavesShort 400 = true
  cl : d.canLay0 = true
  bk : d.bulk ≤ n
theorem RepOk.mono {d : PyData} {k n k' n' : Nat} (h : RepOk d k n) (hk : k ≤ k') (hn : n ≤ n') : RepOk d k' n' := ⟨h.sh, h.nd, Nat.le_trans h.dp hk, h.lv, h.cl, Nat.le_trans h.bk hn⟩
theorem RepOk.fits {d : PyData} {k n : Nat} (h : RepOk d k n) (hn : n ≤ 40000) : d.shown.length ≤ sizeLine := by
  have e := PyData.shown_le_bulk 400 (by decide) d h.lv
  have b := h.bk
  have : (400 + 2) * d.bulk ≤ 402 * 40000 := Nat.mul_le_mul (by decide) (by omega)
  rw [sizeLine_eq]
  omega
theorem RepOk.none : RepOk .none 0 0 := ⟨rfl, rfl, Nat.le_refl _, by decide +kernel, rfl, Nat.le_refl _⟩
theorem RepOk.bool (b : Bool) : RepOk (.bool b) 0 0 := ⟨rfl, rfl, Nat.le_refl _, by cases b <;> decide +kernel, rfl, Nat.le_refl _⟩
theorem log2_small {i : Int} (h : i.natAbs < 2 ^ 398) : i.natAbs.log2 < 398 := by
  by_cases z : i.natAbs = 0
  · rw [z]
    decide
  · exact (Nat.log2_lt z).mpr h
theorem RepOk.int {i : Int} (h : i.natAbs < 2 ^ 398) : RepOk (.int i) 0 0 := by
  have l := log2_small h
  refine ⟨?_, rfl, Nat.le_refl _, ?_, rfl, Nat.le_refl _⟩
  · simp only [PyData.showable, decide_eq_true_eq]
    omega
  · have e := int_text_length_le (a := i) (k := 398) (by decide) l
    have e2 : (Str.ofString (toString i)).length = (toString i).length := PySem.ofString_length _
    have e3 : (PyData.int i).shown.length ≤ 400 := by
      show (Str.ofString (toString i)).length ≤ 400
      rw [e2]
      exact Nat.le_trans e (by decide)
    unfold PyData.leavesShort
    exact decide_eq_true e3
theorem RepOk.str {x : Str} {n : Nat} (h : x.length ≤ n) (hc : ∀ c ∈ x.cps.toList, c < 16 ^ 8) (ho : (PyData.str x).canLay0 = true) : RepOk (.str x) 0 n := by
  refine ⟨rfl, rfl, Nat.le_refl _, ?_, ho, h⟩
  simp only [PyData.leavesShort, List.all_eq_true, decide_eq_true_eq]
  exact hc
theorem rep_all {ds : List PyData} {k n : Nat} : (∀ d ∈ ds, RepOk d k n) → PyData.showableAll ds = true ∧ PyData.hasDictAll ds = false ∧ PyData.depthAll ds ≤ k ∧ PyData.leavesShortAll 400 ds = true ∧ PyData.canLayAll0 ds = true ∧ PyData.bulkAll ds ≤ ds.length * (n + 1) := by
  induction ds with
  | nil => intro _; exact ⟨rfl, rfl, Nat.zero_le _, rfl, rfl, Nat.zero_le _⟩
  | cons d r ih =>
    intro h
    obtain ⟨h1, h2, h3, h4, h6, h5⟩ := ih fun x hx => h x (List.mem_cons_of_mem _ hx)
    have q := h d (List.mem_cons_self ..)
    refine ⟨?_, ?_, ?_, ?_, ?_, ?_⟩
    · simp only [PyData.showableAll, q.sh, h1, Bool.and_self]
    · simp only [PyData.hasDictAll, q.nd, h2, Bool.or_self]
    · simp only [PyData.depthAll]
      exact Nat.max_le.mpr ⟨q.dp, h3⟩
    · simp only [PyData.leavesShortAll, q.lv, h4, Bool.and_self]
    · simp only [PyData.canLayAll0, q.cl, h6, Bool.and_self]
    · simp only [PyData.bulkAll, List.length_cons]
      have b := q.bk
      have e : (r.length + 1) * (n + 1) = r.length * (n + 1) + (n + 1) := Nat.succ_mul _ _
      omega
theorem RepOk.list {ds : List PyData} {k n : Nat} (h : ∀ d ∈ ds, RepOk d k n) : RepOk (.list ds) (k + 1) (ds.length * (n + 1)) := by
  obtain ⟨h1, h2, h3, h4, h6, h5⟩ := rep_all h
  exact ⟨by simpa only [PyData.showable] using h1, by simpa only [PyData.hasDict] using h2, by simp only [PyData.depth]; omega, by simpa only [PyData.leavesShort] using h4, by simpa only [PyData.canLay0] using h6, by simpa only [PyData.bulk] using h5⟩
theorem RepOk.tuple {ds : List PyData} {k n : Nat} (h : ∀ d ∈ ds, RepOk d k n) : RepOk (.tuple ds) (k + 1) (ds.length * (n + 1)) := by
  obtain ⟨h1, h2, h3, h4, h6, h5⟩ := rep_all h
  exact ⟨by simpa only [PyData.showable] using h1, by simpa only [PyData.hasDict] using h2, by simp only [PyData.depth]; omega, by simpa only [PyData.leavesShort] using h4, by simpa only [PyData.canLay0] using h6, by simpa only [PyData.bulk] using h5⟩

theorem RepOk.shaped {d : PyData} {k n : Nat} (h : RepOk d k n) (hk : k ≤ 64) : SeqAt.shaped d = true := by
  unfold SeqAt.shaped
  rw [h.cl, Bool.true_and]
  exact decide_eq_true (Nat.le_trans h.dp hk)
/-- repr(x): its text, by the data alone -/
def rRepr2 (K : PySem.W.Frag) : List V → Hp → VK → Prop := fun xs H Q => ∃ v d k n, xs = [v] ∧ Dp K H v d ∧ RepOk d k n ∧ k ≤ 40 ∧ n ≤ 40000 ∧ Q (.str d.shown) H
theorem call_reprD {X : Cx} (hG : X.A.guards = some []) (hu : X.A.units + 64 < cLine) : CallR X (.builtin "repr") (rRepr2 X.K) := by
  intro pins s σ H xs us Q I r h
  obtain ⟨v, d, k, n, e, hd, ok, hk, hn, q⟩ := h
  exact call_repr hG hu pins s σ H xs us Q I r ⟨v, d, e, hd, ok.sh, ok.nd, Nat.le_trans ok.dp hk, ok.fits hn, q⟩

/-! data that is read at one heap is read at each that keeps what is tracked -/
section
variable {K : PySem.W.Frag} {H H1 : Hp}
mutual
theorem dp_same (h : Same H H1) : ∀ (d : PyData) (v : V), Dp K H v d → Dp K H1 v d
  | .none, _, q => by
    cases q
    exact .non
  | .bool b, _, q => by
    cases q
    exact .bl b
  | .int i, _, q => by
    cases q
    exact .int i
  | .str x, _, q => by
    cases q
    exact .str x
  | .list ds, _, q => by
    cases q with
    | lst h1 h2 => exact .lst (same_seqL h h1) (dpAll_same h ds _ h2)
  | .tuple ds, _, q => by
    cases q with
    | tup h1 h2 => exact .tup (same_seqT h h1) (dpAll_same h ds _ h2)
  | .dict _, _, q => nomatch q
theorem dpAll_same (h : Same H H1) : ∀ (ds : List PyData) (vs : List V), DpAll K H vs ds → DpAll K H1 vs ds
  | [], _, q => by
    cases q
    exact .nil
  | d :: ds, _, q => by
    cases q with
    | cons h1 h2 => exact .cons (dp_same h d _ h1) (dpAll_same h ds _ h2)
end
/-- flat things as data -/
theorem dpAll_ints : ∀ ns : List Int, DpAll K H (ns.map V.int) (ns.map PyData.int)
  | [] => .nil
  | n :: r => .cons (.int n) (dpAll_ints r)
theorem dpAll_strs : ∀ ns : List Str, DpAll K H (ns.map V.str) (ns.map PyData.str)
  | [] => .nil
  | n :: r => .cons (.str n) (dpAll_strs r)
theorem DpAll.map {α : Type} {f : α → V} {g : α → PyData} : ∀ {l : List α}, (∀ x ∈ l, Dp K H (f x) (g x)) → DpAll K H (l.map f) (l.map g)
  | [], _ => .nil
  | x :: r, h => .cons (h x (List.mem_cons_self ..)) (DpAll.map fun y hy => h y (List.mem_cons_of_mem _ hy))
end
end RO

namespace RO
open PySem PySem.Spec PyProof.Rows L2

/-! ### short texts -/
def TOk (k : Nat) (t : Str) : Prop := t.length ≤ k ∧ ∀ c ∈ t.cps.toList, c < 128
theorem TOk.mono {k j : Nat} {t : Str} (h : TOk k t) (l : k ≤ j) : TOk j t := ⟨Nat.le_trans h.1 l, h.2⟩
theorem str_len (t : Str) : t.length = t.cps.toList.length := by
  show t.cps.size = _
  simp
theorem cut_ok {k : Nat} {t : Str} (h : TOk k t) (lo hi : Option Int) : TOk k (cutS t lo hi) := by
  refine ⟨?_, fun c hc => ?_⟩
  · have e := str_len (cutS t lo hi)
    have e2 := str_len t
    have l := h.1
    rw [e]
    unfold cutS
    simp only [List.length_take, List.length_drop]
    omega
  · unfold cutS at hc
    simp only at hc
    exact h.2 c (List.mem_of_mem_drop (List.mem_of_mem_take hc))
theorem codes_app (a b : Str) : (a ++ b).cps.toList = a.cps.toList ++ b.cps.toList := by
  show (a.cps ++ b.cps).toList = _
  simp
theorem codes_join0 : ∀ l : List Str, (Str.join (Str.ofString "") l).cps.toList = l.flatMap (·.cps.toList)
  | [] => rfl
  | [x] => by
    show x.cps.toList = _
    simp
  | x :: y :: r => by
    show (x ++ Str.ofString "" ++ Str.join (Str.ofString "") (y :: r)).cps.toList = _
    rw [codes_app, codes_app, codes_join0 (y :: r)]
    have : (Str.ofString "").cps.toList = [] := by decide +kernel
    rw [this, List.append_nil]
    simp only [List.flatMap_cons]
/-- signs put together -/
theorem join_ok {l : List Str} (h : ∀ x ∈ l, TOk 1 x) : TOk l.length (Str.join (Str.ofString "") l) := by
  refine ⟨?_, fun c hc => ?_⟩
  · rw [str_len, codes_join0]
    induction l with
    | nil => exact Nat.le_refl _
    | cons x r ih =>
      have a := (h x (List.mem_cons_self ..)).1
      rw [str_len] at a
      have b := ih fun y hy => h y (List.mem_cons_of_mem _ hy)
      rw [List.flatMap_cons, List.length_append, List.length_cons]
      omega
  · rw [codes_join0] at hc
    obtain ⟨x, hx, hc⟩ := List.mem_flatMap.mp hc
    exact (h x hx).2 c hc
theorem RepOk.tok {k : Nat} {t : Str} (h : TOk k t) : RepOk (.str t) 0 k := by
  refine RepOk.str h.1 (fun c hc => Nat.lt_of_lt_of_le (h.2 c hc) (by decide)) ?_
  simp only [PyData.canLay0, PyData.strOk, ← Array.all_toList, List.all_eq_true, decide_eq_true_eq]
  exact fun c hc => Nat.lt_of_lt_of_le (h.2 c hc) (by decide)

/-! ### rows -/
/-- what a row bears -/
inductive What where
  | order (i : Int)
  | name (t : Str)
  deriving DecidableEq
def What.v : What → V
  | .order i => .int i
  | .name t => .str t
def What.d : What → PyData
  | .order i => .int i
  | .name t => .str t
theorem What.v_inj {a b : What} (h : a.v = b.v) : a = b := by
  cases a <;> cases b <;> simp_all [What.v]
theorem What.dp {K : PySem.W.Frag} {H : Hp} (x : What) : Dp K H x.v x.d := by
  cases x with
  | order i => exact .int i
  | name t => exact .str t
theorem What.rep {x : What} (h : (∃ i : Int, x = .order i ∧ -4 ≤ i ∧ i ≤ 4) ∨ ∃ t, x = .name t ∧ TOk 8 t) : RepOk x.d 0 8 := by
  rcases h with ⟨i, rfl, h1, h2⟩ | ⟨t, rfl, h⟩
  · exact (RepOk.int (by omega)).mono (Nat.le_refl _) (by omega)
  · exact RepOk.tok h
theorem scal_what (x y : What) : scal x.v y.v = true := by cases x <;> cases y <;> rfl
theorem What.flat (x : What) : flatV x.v = true := by cases x <;> rfl
structure Row where
  m : Int
  l : Str
  w : What
def lines6 : List Str := ["port", "star", "down", "aport", "astar", "up"]
def tubes : List Str := ["down", "up"]
/-- a row as DOC asks -/
structure Row.Ok (r : Row) : Prop where
  m0 : 0 ≤ r.m
  m1 : r.m ≤ 99999
  ln : r.l ∈ lines6
  wh : (r.l ∈ tubes ∧ ∃ t, r.w = .name t ∧ TOk 8 t) ∨ (r.l ∉ tubes ∧ ∃ i, r.w = .order i ∧ -4 ≤ i ∧ i ≤ 4)
theorem lines6_ok : ∀ l ∈ lines6, TOk 8 l := by
  intro l h
  have h2 : l = "port" ∨ l = "star" ∨ l = "down" ∨ l = "aport" ∨ l = "astar" ∨ l = "up" := by simpa [lines6] using h
  rcases h2 with rfl | rfl | rfl | rfl | rfl | rfl <;> exact ⟨by decide +kernel, by decide +kernel⟩
def Row.d (r : Row) : PyData := .tuple [.int r.m, .str r.l, r.w.d]
theorem Row.Ok.rep {r : Row} (h : r.Ok) : RepOk r.d 1 27 := by
  refine (RepOk.tuple (k := 0) (n := 8) fun d hd => ?_).mono (Nat.le_refl _) (by show 3 * 9 ≤ 27; omega)
  have z : d = .int r.m ∨ d = .str r.l ∨ d = r.w.d := by simpa using hd
  rcases z with rfl | rfl | rfl
  · exact (RepOk.int (by have := h.m0; have := h.m1; omega)).mono (Nat.le_refl _) (by omega)
  · exact RepOk.tok (lines6_ok _ h.ln)
  · refine What.rep ?_
    rcases h.wh with ⟨_, t, e, q⟩ | ⟨_, i, e, q1, q2⟩
    · exact .inr ⟨t, e, q⟩
    · exact .inl ⟨i, e, q1, q2⟩

/-- the row r stands at a -/
def RowAt (K : PySem.W.Frag) (H : Hp) (a : Addr) (r : Row) : Prop := SqT K H a [.int r.m, .str r.l, r.w.v]
/-- rows at places -/
inductive RowsAt (K : PySem.W.Frag) (H : Hp) : List Addr → List Row → Prop
  | nil : RowsAt K H [] []
  | cons {a : Addr} {r : Row} {as : List Addr} {rs : List Row} : RowAt K H a r → RowsAt K H as rs → RowsAt K H (a :: as) (r :: rs)
/-- the log rs stands at t -/
def LogAt (K : PySem.W.Frag) (H : Hp) (t : Addr) (rs : List Row) : Prop := ∃ as : List Addr, SqT K H t (as.map V.ref) ∧ RowsAt K H as rs
section
variable {K : PySem.W.Frag} {H H1 : Hp} {t a : Addr} {as : List Addr} {rs : List Row} {r : Row}
theorem RowsAt.length (h : RowsAt K H as rs) : as.length = rs.length := by
  induction h with
  | nil => rfl
  | cons _ _ ih => exact congrArg (· + 1) ih
theorem RowsAt.get (h : RowsAt K H as rs) : ∀ {i : Nat} {r : Row}, rs[i]? = some r → ∃ a, as[i]? = some a ∧ RowAt K H a r := by
  induction h with
  | nil => intro i r e; simp at e
  | cons h1 _ ih =>
    intro i r e
    cases i with
    | zero =>
      simp at e
      subst e
      exact ⟨_, rfl, h1⟩
    | succ i => exact ih (by simpa using e)
theorem RowsAt.get' (h : RowsAt K H as rs) : ∀ {i : Nat} {a : Addr}, as[i]? = some a → ∃ r, rs[i]? = some r ∧ RowAt K H a r := by
  induction h with
  | nil => intro i r e; simp at e
  | cons h1 _ ih =>
    intro i r e
    cases i with
    | zero =>
      simp at e
      subst e
      exact ⟨_, rfl, h1⟩
    | succ i => exact ih (by simpa using e)
theorem RowsAt.snoc (h : RowsAt K H as rs) (h1 : RowAt K H a r) : RowsAt K H (as ++ [a]) (rs ++ [r]) := by
  induction h with
  | nil => exact .cons h1 .nil
  | cons h2 _ ih => exact .cons h2 ih
theorem RowsAt.imp (h : RowsAt K H as rs) (f : ∀ a r, RowAt K H a r → RowAt K H1 a r) : RowsAt K H1 as rs := by
  induction h with
  | nil => exact .nil
  | cons h2 _ ih => exact .cons (f _ _ h2) ih
theorem RowsAt.same (h : RowsAt K H as rs) (s : Same H H1) : RowsAt K H1 as rs := h.imp fun _ _ q => same_seqT s q
theorem seqT_lst {p : Addr} {xs ys : List V} (h : SqT K H a xs) (hp : H p = some (.lst ys)) (b : But p H H1) : SqT K H1 a xs := by
  rcases h with h | h
  · have n : a ≠ p := by
      rcases h with h | ⟨o, h⟩
      · exact ne_of h hp (by intro z; cases z)
      · exact ne_of h hp (by intro z; cases z)
    exact .inl (b.rd n h)
  · exact .inr h
theorem seqT_go {p c : Addr} {n : Nat} {xs : List V} (h : SqT K H a xs) (hp : PenAt H p c n) (b : But p H H1) : SqT K H1 a xs := by
  obtain ⟨_, _, e, _⟩ := hp
  exact seqT_lst h e b
theorem RowsAt.lst {p : Addr} {ys : List V} (h : RowsAt K H as rs) (hp : H p = some (.lst ys)) (b : But p H H1) : RowsAt K H1 as rs := h.imp fun _ _ q => seqT_lst q hp b
theorem RowsAt.go {p c : Addr} {n : Nat} (h : RowsAt K H as rs) (hp : PenAt H p c n) (b : But p H H1) : RowsAt K H1 as rs := by
  obtain ⟨_, _, e, _⟩ := hp
  exact h.lst e b
theorem LogAt.go {p c : Addr} {n : Nat} (h : LogAt K H t rs) (hp : PenAt H p c n) (b : But p H H1) : LogAt K H1 t rs := by
  obtain ⟨as, h1, h2⟩ := h
  obtain ⟨_, _, e, _⟩ := id hp
  exact ⟨as, seqT_lst h1 e b, h2.go hp b⟩
theorem RowsAt.take (h : RowsAt K H as rs) (n : Nat) : RowsAt K H (as.take n) (rs.take n) := by
  induction h generalizing n with
  | nil => simp; exact .nil
  | cons h2 _ ih =>
    cases n with
    | zero => exact .nil
    | succ n => exact .cons h2 (ih n)
theorem RowsAt.drop (h : RowsAt K H as rs) (n : Nat) : RowsAt K H (as.drop n) (rs.drop n) := by
  induction h generalizing n with
  | nil => simp; exact .nil
  | cons h2 h3 ih =>
    cases n with
    | zero => exact .cons h2 h3
    | succ n => exact ih n
theorem LogAt.same (h : LogAt K H t rs) (s : Same H H1) : LogAt K H1 t rs := by
  obtain ⟨as, h1, h2⟩ := h
  exact ⟨as, same_seqT s h1, h2.same s⟩
theorem RowAt.dp (h : RowAt K H a r) : Dp K H (.ref a) r.d := .tup h (.cons (.int _) (.cons (.str _) (.cons r.w.dp .nil)))
theorem RowsAt.dp (h : RowsAt K H as rs) : DpAll K H (as.map V.ref) (rs.map Row.d) := by
  induction h with
  | nil => exact .nil
  | cons h2 _ ih => exact .cons h2.dp ih
theorem LogAt.dp (h : LogAt K H t rs) : Dp K H (.ref t) (.tuple (rs.map Row.d)) := by
  obtain ⟨as, h1, h2⟩ := h
  exact .tup h1 h2.dp
theorem log_rep (h : ∀ r ∈ rs, r.Ok) (l : rs.length ≤ 41) : RepOk (.tuple (rs.map Row.d)) 2 1148 := by
  refine (RepOk.tuple (k := 1) (n := 27) fun d hd => ?_).mono (Nat.le_refl _) ?_
  · obtain ⟨r, hr, rfl⟩ := List.mem_map.mp hd
    exact (h r hr).rep
  · rw [List.length_map]
    omega
end
theorem ints_rep {ns : List Int} {k : Nat} (h : ∀ n ∈ ns, n.natAbs < 2 ^ 398) (l : ns.length ≤ k) : RepOk (.list (ns.map PyData.int)) 1 k := by
  refine (RepOk.list (k := 0) (n := 0) fun d hd => ?_).mono (Nat.le_refl _) ?_
  · obtain ⟨r, hr, rfl⟩ := List.mem_map.mp hd
    exact RepOk.int (h r hr)
  · rw [List.length_map]
    omega
theorem cut_take (xs : List V) (i : Nat) (h : i ≤ xs.length) : cutV xs none (some (i : Int)) = xs.take i := by
  unfold cutV
  rw [HT.sIx_none, HT.sIx_nat, List.drop_zero, Nat.min_eq_left h, Nat.sub_zero]
theorem cut_drop (xs : List V) (i : Nat) : cutV xs (some (i : Int)) none = xs.drop i := by
  unfold cutV
  rw [HT.sIx_none, HT.sIx_nat]
  by_cases h : i ≤ xs.length
  · rw [Nat.min_eq_left h, List.take_of_length_le (by rw [List.length_drop]; exact Nat.le_refl _)]
  · rw [Nat.min_eq_right (by omega), List.drop_length, List.drop_eq_nil_of_le (by omega)]
    simp
theorem cut_not (xs : List V) (i : Nat) (h : i < xs.length) : ¬(HT.sIx xs.length 0 none = 0 ∧ HT.sIx xs.length xs.length (some (i : Int)) = xs.length) := fun z => by
  rw [HT.sIx_nat] at z
  omega
/-! ### the rules that name the written part, with it said: they stand within comprehensions, too -/
section
variable (K : PySem.W.Frag) {X : Cx}
theorem kx_seq (h : X.K = K := by rfl) : IxR X (rIx K) := by
  subst h
  exact ix_seq
theorem kx_list (h : X.K = K := by rfl) : IxR X (rIxL K) := by
  subst h
  exact ix_list
theorem kx_tup (h : X.K = K := by rfl) : IxR X (rIxT K) := by
  subst h
  exact ix_tup
theorem k_slL (h : X.K = K := by rfl) : SlR X (rSlL K) := by
  subst h
  exact sl_list
theorem k_slT (h : X.K = K := by rfl) : SlR X (rSlT K) := by
  subst h
  exact sl_tup
theorem k_slA (h : X.K = K := by rfl) : SlR X (rSlA K) := by
  subst h
  exact sl_tupA
theorem k_in (h : X.K = K := by rfl) : OpR X (compareOp .In) (rIn K false) := by
  subst h
  exact op_in_seq
theorem k_notin (h : X.K = K := by rfl) : OpR X (compareOp .NotIn) (rIn K true) := by
  subst h
  exact op_notIn_seq
def rLen (K : PySem.W.Frag) : List V → Hp → VK → Prop := fun xs H Q => ∃ p ys, xs = [.ref p] ∧ (SqL K H p ys ∨ SqT K H p ys) ∧ Q (.int ys.length) H
theorem k_len (h : X.K = K := by rfl) : CallR X (.builtin "len") (rLen K) := by
  subst h
  exact call_len_seq
theorem k_isi (h : X.K = K := by rfl) : CallR X (.builtin "isinstance") (rIsi K) := by
  subst h
  exact call_isi
theorem k_eqD (hu : X.A.units + 64 < cLine) (h : X.K = K := by rfl) : OpR X (compareOp .Eq) (rEqD K) := by
  subst h
  exact op_eqD hu
theorem k_neD (hu : X.A.units + 64 < cLine) (h : X.K = K := by rfl) : OpR X (compareOp .NotEq) (rNeD K) := by
  subst h
  exact op_neD hu
theorem k_repr (hG : X.A.guards = some []) (hu : X.A.units + 64 < cLine) (h : X.K = K := by rfl) : CallR X (.builtin "repr") (rRepr2 K) := by
  subst h
  exact call_reprD hG hu
def rTupOf (K : PySem.W.Frag) : List V → Hp → VK → Prop := fun xs H Q => ∃ p ys, xs = [.ref p] ∧ ((SqL K H p ys ∧ ∀ l, H l = none → Q (.ref l) (upd H l (.tup ys))) ∨ (SqT K H p ys ∧ Q (.ref p) H))
theorem k_tupOf (h : X.K = K := by rfl) : CallR X (.type "tuple") (rTupOf K) := by
  subst h
  exact call_tuple_of
def rListOf (K : PySem.W.Frag) : List V → Hp → VK → Prop := fun xs H Q => ∃ p ys, xs = [.ref p] ∧ (SqL K H p ys ∨ SqT K H p ys) ∧ ∀ l, H l = none → Q (.ref l) (upd H l (.lst ys))
theorem k_listOf (h : X.K = K := by rfl) : CallR X (.type "list") (rListOf K) := by
  subst h
  exact call_list_of
theorem k_isiT (h : X.K = K := by rfl) : CallR X (.builtin "isinstance") (rIsiT K) := by
  subst h
  exact call_isiT
theorem k_all (hc : X.calm = true) (h : X.K = K := by rfl) : CallR X (.builtin "all") (rAll K) := by
  subst h
  exact cr_all hc
theorem k_any (hc : X.calm = true) (h : X.K = K := by rfl) : CallR X (.builtin "any") (rAny K) := by
  subst h
  exact cr_any hc
theorem k_sorted (h : X.K = K := by rfl) : CallR X (.builtin "sorted") (rSortedI K) := by
  subst h
  exact cr_sortedI
theorem k_catT (h : X.K = K := by rfl) : OpR X (binaryOp .Add) (rCatT K) := by
  subst h
  exact op_catT
theorem k_pgT {es : List Expr} {k : Nat} {t : TGs} {n : Nat} {pos : Pos} (hc : X.calm = true) (h : PGs X es t) (hn : (assignEach es X.env).length = n := by rfl) (hs : (assignEach es X.env).findIdx? (fun p => p.1) = none := by rfl) (hK : X.K = K := by rfl) : PG X (.Tuple es k pos) (gTup K n t) := by
  subst hK
  exact pg_tup hc h hn hs
theorem k_piL {tg l : Expr} {tl : TE} (hl : PE X l tl) (h : X.K = K := by rfl) : PI X tg l (iList K tl) := by
  subst h
  exact pi_list hl
theorem k_piT {tg l : Expr} {tl : TE} (hl : PE X l tl) (h : X.K = K := by rfl) : PI X tg l (iTup K tl) := by
  subst h
  exact pi_tup hl
end
/-! ### lists and tuples alike -/
/-- a list or a tuple is read -/
def SqE (K : PySem.W.Frag) (H : Hp) (a : Addr) (xs : List V) : Prop := SqL K H a xs ∨ SqT K H a xs
def gEither (K : PySem.W.Frag) (n : Nat) (t : TGs) : TG := fun v σ H Q => ∃ a xs, v = .ref a ∧ SqE K H a xs ∧ xs.length = n ∧ t xs σ H Q
/-- x[i], x a list or a tuple -/
def rIxE (K : PySem.W.Frag) : R2 := fun x y H Q => ∃ p xs i v, x = .ref p ∧ y = .int i ∧ SqE K H p xs ∧ atI xs i = some v ∧ Q v H
theorem kx_E (K : PySem.W.Frag) {X : Cx} (hK : X.K = K := by rfl) : IxR X (rIxE K) := by
  subst hK
  rintro value slice pins s σ H x y v u Q I rx ry ⟨p, xs, i, z, e1, e2, hq | hq, e3, q⟩ hs
  · exact ix_list value slice pins s σ H x y v u Q I rx ry ⟨p, xs, i, z, e1, e2, hq, e3, q⟩ hs
  · exact ix_tup value slice pins s σ H x y v u Q I rx ry ⟨p, xs, i, z, e1, e2, hq, e3, q⟩ hs
/-- for x in v, v a name of a list or of a tuple -/
def iEither (K : PySem.W.Frag) (i : Nat) : TI := fun σ H R => ∃ a, σ[i]? = some (some (V.ref a)) ∧ (((∃ xs, SqL K H a xs) ∧ R (Itl K a) H) ∨ ((∃ xs, SqT K H a xs) ∧ R (Itt K a) H))
theorem k_piV (K : PySem.W.Frag) {X : Cx} {tg l : Expr} {i : Nat} (hl : PE X l (tVar i)) (hK : X.K = K := by rfl) : PI X tg l (iEither K i) := by
  subst hK
  constructor
  rintro pins s σ H R I ⟨a, e, ⟨hq, q⟩ | ⟨hq, q⟩⟩
  · exact (pi_list hl).run pins s σ H R I ⟨_, e, a, rfl, hq, q⟩
  · exact (pi_tup hl).run pins s σ H R I ⟨_, e, a, rfl, hq, q⟩
section
variable {X : Cx} {K : PySem.W.Frag} {H H1 : Hp} {a p : Addr} {xs : List V}
theorem SqE.same (h : SqE K H a xs) (s : Same H H1) : SqE K H1 a xs := h.imp (same_seqL s) (same_seqT s)
theorem k_pgE (K : PySem.W.Frag) {es : List Expr} {k : Nat} {t : TGs} {n : Nat} {pos : Pos} (hc : X.calm = true) (h : PGs X es t) (hn : (assignEach es X.env).length = n := by rfl) (hs : (assignEach es X.env).findIdx? (fun p => p.1) = none := by rfl)
    (hK : X.K = K := by rfl) : PG X (.Tuple es k pos) (gEither K n t) := by
  subst hK
  constructor
  rintro pins s σ H v u Q I r ⟨a, xs, e1, hq | hq, hl, hw⟩
  · exact (pg_unl hc h hn hs).run pins s σ H v u Q I r ⟨a, xs, e1, hq, hl, hw⟩
  · exact (pg_tup hc h hn hs).run pins s σ H v u Q I r ⟨a, xs, e1, hq, hl, hw⟩
theorem seqT_ty (h : SqT K H a xs) : TyX K H (.ref a) (.type "tuple") := by
  rcases h with (h | ⟨o, h⟩) | ⟨o, its, n, e, c, _⟩
  · exact .base (.tup h)
  · exact .fTuple h
  · exact .kTuple e c
theorem seqL_ty (h : SqL K H a xs) : TyX K H (.ref a) (.type "list") := by
  rcases h with (h | ⟨o, h⟩) | ⟨o, its, n, e, c, _⟩
  · exact .base (.lst h)
  · exact .base (.frz h)
  · exact .kList e c
end
/-! ### defs with defaults -/
section
variable {P : Program} {w : World} {K : PySem.W.Frag} {mg : Str → Option Value} {base : Heap} {x qual : Str} {params : Arguments} {body : List Stmt} {scope : Scope} {dvs : List V} {f : Addr} {fd : FuncData} {ps : List Str}
theorem FunD_okN {N : List Str} {k : Nat} {sp : Sp} (F : FunD K x qual params body scope dvs [] f fd) (S : FnScope N ps scope) (len : ∀ vs H Q E, sp vs H Q E → vs.length = ps.length)
    (hb : ∀ (cdv : Value) (A : Around) (outer : List Env) (s : Shared) (H : Hp) (vs : List V) (Q : VK) (E : XK), Room k (A.deeper (envOfC qual scope s.heap.objs.size f cdv)) → sp vs H Q E →
      ∃ t, PSs (cxOf CX0 P w K mg base N qual scope f cdv A outer s H E).nox body t ∧ t { nx := fun _ H' => Q .non H', rt := Q } (start N vs) H) : FnOk P w K mg base CX0 (k + 1) f fd ps sp :=
  F.ok S len fun cdv A outer s H vs Q E hr h => by
    obtain ⟨t, h1, h2⟩ := hb cdv A outer s H vs Q E hr h
    exact ⟨t, h1.nox, h2⟩
theorem FunD_mk {oc : Value} {od an : Option Addr} {T : Addr} {kV doc pm cdv ct : Value} {osl : Array (Option Value)} {tc : Value} {td : Option Addr} {its : Array Value} {n : Nat} {tsl : Array (Option Value)}
    (l : K.lookup f = some ⟨oc, od, .func (PySem.W.fnOf x qual params body scope (.ref T) kV doc pm an cdv ct), osl⟩) (c : PySem.W.codeIn K cdv qual = true) (k : PySem.W.keepIn K (.ref f) = true)
    (lt : K.lookup T = some ⟨tc, td, .seq its n, tsl⟩) (v : Vals dvs its.toList) (hd : dvs ≠ []) : FunD K x qual params body scope dvs [] f (PySem.W.fnOf x qual params body scope (.ref T) kV doc pm an cdv ct) :=
  ⟨⟨oc, od, _, kV, doc, pm, an, cdv, ct, osl, rfl, l, c, .inr ⟨hd, T, _, its.toList, n, rfl, lt, by simp, v⟩, .inl rfl⟩, k⟩
/-- keywords, the defaults filling up what lacks -/
theorem FunD_kb (F : FunD K x qual params body scope dvs [] f fd) (hd : dvs ≠ []) (ks : List Str) (g : List Value → List Value → List Value → List Value) (gV : List V → List V → List V → List V)
    (rel : ∀ {vs ds zs : List V} {us its ws : List Value}, Vals vs us → Vals ds its → Vals zs ws → Vals (gV vs ds zs) (g us its ws))
    (h : ∀ (T : Addr) (kV doc pm : Value) (an : Option Addr) (cdv ct : Value) (us its ws : List Value), its.length = dvs.length → (g us its ws).length = ps.length →
      ∃ k, bindArgs (PySem.W.fnOf x qual params body scope (.ref T) kV doc pm an cdv ct) ⟨us, ks.zip ws⟩ = seqItems? (.ref T) >>= k ∧ k (some its.toArray) = pure (ps.zip (g us its ws))) :
    ∃ its : List Value, KBinds K fd ps ks (fun us ws => g us its ws) (fun vs zs => gV vs dvs zs) := by
  obtain ⟨oc, od, dV, kV, doc, pm, an, cdv, ct, osl, e, lk, hcd, hD, _⟩ := F.ex
  subst e
  rcases hD with ⟨e, _⟩ | ⟨_, T, o, its, m, rfl, lT, oT, rT⟩
  · exact absurd e hd
  · refine ⟨its, fun s us ws X hl => ?_, fun r1 r2 => rel r1 rT r2⟩
    obtain ⟨k, e1, e2⟩ := h T kV doc pm an cdv ct us its ws rT.length.symm hl
    refine BindsTo.of_looks fun M => ?_
    rw [e1]
    exact looks_items X lT oT (.of_pure e2)
end
end RO

namespace RO
open PySem PySem.Spec PyProof.Rows L2

/-! ### dicts of at most one pair, as data -/
/-- a number or a text, as data -/
inductive Sc : V → PyData → Prop
  | int (i : Int) : Sc (.int i) (.int i)
  | str (t : Str) : Sc (.str t) (.str t)
/-- data, or a small dict -/
inductive Dq (K : PySem.W.Frag) (H : Hp) : V → PyData → Prop
  | dp {v : V} {d : PyData} {k n : Nat} : Dp K H v d → RepOk d k n → k ≤ 40 → n ≤ 40000 → Dq K H v d
  | d0 {a : Addr} : H a = some (.dK []) → Dq K H (.ref a) (.dict [])
  | d1 {a : Addr} {t : Str} {x : V} {e : PyData} {n : Nat} : H a = some (.dK [(.inr t, x)]) → Sc x e → RepOk e 0 n → n ≤ 1000 → TOk 8 t → Dq K H (.ref a) (.dict [(.str t, e)])
theorem Dq.same {K : PySem.W.Frag} {H H1 : Hp} {v : V} {d : PyData} (h : Dq K H v d) (s : Same H H1) : Dq K H1 v d := by
  cases h with
  | dp h1 h2 h3 h4 => exact .dp (dp_same s _ _ h1) h2 h3 h4
  | d0 e => exact .d0 (s _ _ e)
  | d1 e a b c l => exact .d1 (s _ _ e) a b c l
theorem shown_short {d : PyData} {k n : Nat} (h : RepOk d k n) (hn : n ≤ 1000) : d.shown.length ≤ 402 * 1001 := by
  have e := PyData.shown_le_bulk 400 (by decide) d h.lv
  have b := h.bk
  have : (400 + 2) * d.bulk ≤ 402 * 1000 := Nat.mul_le_mul (by decide) (by omega)
  omega
theorem str_app (a b : Str) : (a ++ b).length = a.length + b.length := by
  rw [str_len, str_len, str_len, codes_app, List.length_append]
/-- repr(x), x data or a small dict -/
def rRepr4 (K : PySem.W.Frag) : List V → Hp → VK → Prop := fun xs H Q => ∃ v d, xs = [v] ∧ Dq K H v d ∧ Q (.str d.shown) H
theorem sys_ne {a : Addr} (h : (a == sysModules) = false) : a ≠ sysModules := fun z => by
  rw [z] at h
  simp at h
theorem call_repr4 {X : Cx} (hG : X.A.guards = some []) (hu : X.A.units + 64 < cLine) : CallR X (.builtin "repr") (rRepr4 X.K) := by
  intro pins s σ H xs us Q I r h
  obtain ⟨v, d, e, hd, q⟩ := h
  cases hd with
  | dp h1 h2 h3 h4 => exact call_reprD hG hu pins s σ H xs us Q I r ⟨v, d, _, _, e, h1, h2, h3, h4, q⟩
  | @d0 a ha =>
    subst e
    rw [Vals.ref1 r]
    have fin : ∀ (h' : Heap) (u : Tok) (tk : Nat), (∀ b o, s.heap.get? b = some o → h'.get? b = some o) → EP X pins σ Q (.str (PyData.dict []).shown u) { s with heap := h', toks := tk } :=
      fun h' u tk hk => ⟨.str (PyData.dict []).shown, H, I.un (Un.kept hk) (I.hok.kept hk), ⟨u, rfl⟩, q⟩
    obtain ⟨_, hs, vs, rel, o, es, ep, ho, hx, hdat, hk, hp, _⟩ := dk_of I.hok ha
    cases rel
    have he : es.toList = [] := by
      have := hp.length
      exact List.eq_nil_of_length_eq_zero this
    have rd : Reads s.heap (.ref a) (.dict []) (a :: [] ++ []) := Reads.dict ho hx.1 hdat (by rw [he]; exact .nil) (by rw [he]; exact .nil)
    exact repr_of_reads' rd (by decide) (fun _ => by simpa using Ne.symm (sys_ne hs)) hG (by show _ + (1 + 1) < _; omega) (fun _ _ z => z) fin (by decide +kernel)
  | @d1 a t x e' n ha hsc hr hn ht =>
    subst e
    rw [Vals.ref1 r]
    have hts := RepOk.tok ht
    have hsh : (PyData.dict [(.str t, e')]).showable = true := by
      simp [PyData.showable, PyData.showableKv, hr.sh]
    have hdp : (PyData.dict [(.str t, e')]).depth ≤ 1 := by
      have := hr.dp
      simp [PyData.depth, PyData.depthKv]
      omega
    have hlen : (PyData.dict [(.str t, e')]).shown.length ≤ sizeLine := by
      have l1 := shown_short hr hn
      have l2 := shown_short hts (by decide)
      rw [PyData.shown_dict]
      simp only [PyData.shownKv, Str.join]
      simp only [str_app]
      have c1 : ("{" : Str).length = 1 := by decide +kernel
      have c2 : ("}" : Str).length = 1 := by decide +kernel
      have c3 : (": " : Str).length = 2 := by decide +kernel
      rw [c1, c2, c3, sizeLine_eq]
      omega
    have fin : ∀ (h' : Heap) (u : Tok) (tk : Nat), (∀ b o, s.heap.get? b = some o → h'.get? b = some o) → EP X pins σ Q (.str (PyData.dict [(.str t, e')]).shown u) { s with heap := h', toks := tk } :=
      fun h' u tk hk => ⟨.str (PyData.dict [(.str t, e')]).shown, H, I.un (Un.kept hk) (I.hok.kept hk), ⟨u, rfl⟩, q⟩
    obtain ⟨_, hs, vs, rel, o, es, ep, ho, hx, hdat, hk, hp, _⟩ := dk_of I.hok ha
    cases rel with
    | @cons _ qv _ _ r1 r2 =>
      cases r2
      obtain ⟨er, rx⟩ := r1
      generalize hes : es.toList = el at hp
      cases hp with
      | @cons en _ _ _ p1 p2 p3 =>
        cases p3
        obtain ⟨_, _, z, _⟩ | ⟨y, tk, z, ek⟩ := keyIs_shape p1
        · rw [← er] at z
          cases z
        · rw [← er] at z
          cases z
          have rv : Reads s.heap en.val e' [] := by
            rw [p2]
            cases hsc with
            | int i =>
              obtain ⟨tt, ee⟩ := (show ∃ tt, qv.2 = Value.int i tt from rx)
              rw [ee]
              exact .int i tt
            | str y =>
              obtain ⟨tt, ee⟩ := (show ∃ tt, qv.2 = Value.str y tt from rx)
              rw [ee]
              exact .str y tt
          have rk : Reads s.heap en.key (.str t) [] := by
            rw [ek]
            exact .str t tk
          have rd : Reads s.heap (.ref a) (.dict [(.str t, e')]) (a :: ([] ++ []) ++ ([] ++ [])) := Reads.dict ho hx.1 hdat (by rw [hes]; exact .cons rk .nil) (by rw [hes]; exact .cons rv .nil)
          exact repr_of_reads' rd hsh (fun _ => by simpa using Ne.symm (sys_ne hs)) hG (by omega) (fun _ _ z => z) fin hlen
/-! ### texts of numbers, letters -/
theorem int_tok {i : Int} {k : Nat} (h : i.natAbs < 2 ^ k) (hk : 0 < k) : TOk (k + 1) (toString i : String) := by
  refine ⟨?_, fun c hc => ?_⟩
  · have l : i.natAbs.log2 < k := by
      by_cases z : i.natAbs = 0
      · rw [z]
        have : Nat.log2 0 = 0 := by decide
        omega
      · exact (Nat.log2_lt z).mpr h
    have e := int_text_length_le (a := i) hk l
    have e2 : (Str.ofString (toString i)).length = (toString i).length := PySem.ofString_length _
    show (Str.ofString (toString i)).length ≤ k + 1
    omega
  · by_cases z : c ≠ 45 ∧ (c < 48 ∨ 57 < c)
    · exact absurd hc (int_text_free' c z i)
    · omega
def rStrOf : List V → Hp → VK → Prop := fun xs H Q => (∃ i, xs = [.int i] ∧ i.natAbs.log2 < 1920 ∧ Q (.str (toString i : String)) H) ∨ ∃ a, xs = [.str a] ∧ Q (.str a) H
theorem k_strOf {X : Cx} : CallR X (.type "str") rStrOf := by
  rintro pins s σ H xs us Q I r (h | h)
  · exact call_str_int pins s σ H xs us Q I r h
  · exact SkE.call_str_str pins s σ H xs us Q I r h
theorem k_repr4 (K : PySem.W.Frag) {X : Cx} (hG : X.A.guards = some []) (hu : X.A.units + 64 < cLine) (h : X.K = K := by rfl) : CallR X (.builtin "repr") (rRepr4 K) := by
  subst h
  exact call_repr4 hG hu
def CPowW (i j : Int) : Prop := 0 ≤ j ∧ ((Builtin.Int.intBits i : Nat) : Int) * j ≤ 134217728
theorem op_powW {X : Cx} : OpR X (binaryOp .Pow) (rI CPowW fun i j => .int (i ^ j.toNat)) := opI fun _ _ _ _ _ _ _ hc q => pow_int hc.1 hc.2 q
def letter (c : Nat) : Bool := decide (97 ≤ c) && decide (c ≤ 122)
theorem letter_not : ∀ c, c < 128 → (!(!(Builtin.Str.occurrences (Str.ofString "abcdefghijklmnopqrstuvwxyz") ⟨#[c]⟩ 0 (Str.ofString "abcdefghijklmnopqrstuvwxyz").length 1).isEmpty)) = !letter c := by decide +kernel
end RO

namespace RO
open PySem PySem.Spec PyProof.Rows L2

/-! ### set(xs), xs a list of numbers -/
/-- an empty set's object -/
def emptySet (w : World) : Obj := { cls := .type "set", dict := none, data := .set #[] 0 (.fresh 0 0 (!w.params.followText "set-order")) }
section
variable {P : Program} {w : World} {A : Around} {E : Value → Shared → Prop} {s : Shared}
/-- set(v): the empty set, and what its start makes of it -/
theorem set_call {v : Value} {Q : Value → Shared → Prop} {G : Shared → Prop}
    (start : wpAny (model P w) A.in1.in1 (Builtin.«set.__init__» ⟨[.ref s.heap.objs.size, v], []⟩)
      (fun fin s' => match fin with
        | .done f => wants (fun r s₂ => r = .none ∧ G s₂) E (.ok f) s'
        | .again c' => c'.quiet = true ∧ codeAny (model P w) A.in1 c' (wants (fun r s₂ => r = .none ∧ G s₂) E) s')
      (fun e s' => wants (fun r s₂ => r = .none ∧ G s₂) E (.error e) s') { s with heap := s.heap.push (emptySet w) })
    (fin : ∀ s', G s' → Q (.ref s.heap.objs.size) s') : wpAny (model P w) A (call (.type "set") [v]) Q E s := by
  have lk := F.called_set.init.lookup
  have bd := F.called_set.init.bind (.ref s.heap.objs.size)
  have nt := F.called_set.notType
  have cc := F.called_set.canCreate
  have tc := F.typeCall_set_1 v
  have md := F.called_set.made
  have sb := F.called_set.sub
  obtain ⟨c, tl, mro⟩ := F.called_set.mro
  refine wpAny_call (codeAny_of_tree ?_)
  show wpAny _ _ (callAny (.type "set") _) _ _ _
  refine wpAny_pure ⟨Code.quiet_builtin _ (by decide +kernel), codeAny_builtin F.entry_type_call ?_⟩
  rw [Around.under_plain (weight_type_call_type "set" [v] []) rfl]
  repeat (any_goals (first | assumption | wp_step))
  refine codeAny_mono (code_set_led1 v (E := E) (Q₁ := fun obj t => obj = .ref s.heap.objs.size ∧ t = { s with heap := s.heap.push (emptySet w) }) ⟨rfl, rfl⟩) fun r t hr => ?_
  cases r with
  | error e => exact hr
  | ok fl =>
    cases fl with
    | ret obj =>
      obtain ⟨rfl, rfl⟩ := hr
      have ty : Shared.TypeIs { s with heap := s.heap.push (emptySet w) } (.ref s.heap.objs.size) "set" := ⟨_, Heap.get?_push_size _ rfl, rfl⟩
      repeat (any_goals (first | assumption | wp_step))
      refine codeAny_mono (codeAny_call_builtin F.called_set.init.plain F.entry_set_init (check_set_init_1 ty start)) fun r2 t2 h2 => ?_
      cases r2 with
      | error e => exact h2
      | ok fl2 =>
        cases fl2 with
        | ret z =>
          obtain ⟨rfl, g⟩ := h2
          have q := fin _ g
          repeat (any_goals (first | assumption | wp_step))
        | _ => exact h2.elim
    | _ => exact hr.elim
/-- of a list of numbers -/
theorem set_ints {l : Addr} {items : Array Value} {ns : List Int} {Q : Value → Shared → Prop} (hh : A.handled = none) (hl : s.heap.IsList l items) (hit : IntsAre items.toList ns) (hb : ns.length + 1 < scanBound)
    (h : ∀ (h' : Heap) (tk n : Nat), SetR w h' s.heap.objs.size (fun j => decide (j ∈ ns)) n → n ≤ ns.length → (∀ b o, s.heap.get? b = some o → h'.get? b = some o) → Q (.ref s.heap.objs.size) { s with heap := h', toks := tk }) :
    wpAny (model P w) A (call (.type "set") [.ref l]) Q E s := by
  have size : items.size = ns.length := by
    rw [← Array.length_toList]
    exact IntsAre.length hit
  have vals : ∀ (i : Nat) (v : Value), items[i]? = some v → ∃ k t, ns[i]? = some k ∧ v = .int k t := fun i v hv => by
    have lt : i < ns.length := size ▸ (Array.getElem?_eq_some_iff.mp hv).1
    obtain ⟨t, e⟩ := IntsAre.int_at hit i v (by rw [Array.getElem?_toList]; exact hv)
    refine ⟨ns[i], t, List.getElem?_eq_getElem lt, ?_⟩
    rw [e, List.getD_eq_getElem?_getD, List.getElem?_eq_getElem lt]
    rfl
  refine set_call (G := fun s2 => ∃ h' tk n, s2 = { s with heap := h', toks := tk } ∧ SetR w h' s.heap.objs.size (fun j => decide (j ∈ ns)) n ∧ n ≤ ns.length ∧ ∀ b o, s.heap.get? b = some o → h'.get? b = some o) ?_ ?_
  · have l1 : (s.heap.push (emptySet w)).IsList l items := hl.push _
    have lS : l < s.heap.objs.size := by
      obtain ⟨_, e, _⟩ := hl
      exact Heap.lt_size e
    have z1 : (s.heap.push (emptySet w)).objs.size = s.heap.objs.size + 1 := Heap.size_push ..
    obtain ⟨⟨oc, od, odt, osl⟩, hol, hcl, nl, hdl⟩ := id l1
    simp only at hcl hdl
    subst hcl hdl
    have n1 := F.sub_list_set
    have n2 := F.sub_list_frozenset
    have n3 : (Value.type "list" == Value.type "dict") = false := by decide
    unfold Builtin.«set.__init__» noKeywords Builtin.Frozenset.updateFrom
    generalize hPI : pyIter = PI
    wp_walk
    subst hPI
    refine wpAny_pyIter_list l1 ?_
    refine wpAny_bind (wpAny_runValue ?_)
    have apart : l ≠ (s.heap.push (emptySet w)).objs.size := by
      rw [z1]
      exact Nat.ne_of_lt (Nat.lt_succ_of_lt lS)
    have S0 : (s.heap.push (emptySet w)).get? s.heap.objs.size = some (emptySet w) := Heap.get?_push_size _ rfl
    have out : s.heap.objs.size ∉ [(s.heap.push (emptySet w)).objs.size, l] := by
      simp only [List.mem_cons, List.not_mem_nil, or_false, not_or]
      exact ⟨by rw [z1]; exact Nat.ne_of_lt (Nat.lt_succ_self _), Nat.ne_of_gt lS⟩
    refine set_update_ints ((Walks.list (by simp [hh]) _ l apart items).toS) s.heap.objs.size out ns size hb vals (items.size - 0) 0 _ (by omega) (Nat.zero_le _)
      ⟨⟨_, Heap.get?_push_size _ rfl, rfl, rfl⟩, l1.push _⟩ ⟨0, Nat.le_refl 0, setR_new_at (Heap.get?_push_of_some _ S0)⟩ fun s3 n mv hn R => ?_
    obtain ⟨h', g', d', tk', o'⟩ := s3
    have e1 : g' = s.gens := mv.gens
    have e2 : d' = s.drawn := mv.drawn
    have e3 : o' = s.os := mv.os
    subst e1 e2 e3
    refine wpAny_pure (wpAny_pure ⟨rfl, h', tk', n, rfl, R, by omega, fun b o e => ?_⟩)
    have lt := Heap.lt_size e
    exact mv.heap b o (by simp only [List.mem_cons, List.not_mem_nil, or_false, not_or]; exact ⟨Nat.ne_of_lt lt, by rw [z1]; exact Nat.ne_of_lt (Nat.lt_succ_of_lt lt)⟩) (Heap.get?_push_of_some _ (Heap.get?_push_of_some _ e))
  · rintro s2 ⟨h', tk, n, rfl, R, hn, keep⟩
    exact h h' tk n R hn keep
end
section
variable {X : Cx}
/-- set(xs) by values -/
def rSetI (K : PySem.W.Frag) (w : World) : List V → Hp → VK → Prop := fun vs H Q => ∃ (a : Addr) (ns : List Int), vs = [V.ref a] ∧ SqL K H a (ns.map V.int) ∧ ns.length ≤ 1000 ∧
  ∀ p n, H p = none → n ≤ ns.length → Q (.ref p) (upd H p (SetO w p (fun j => decide (j ∈ ns)) n))
theorem cr_setI (hc : X.calm = true) : CallR X (.type "set") (rSetI X.K X.w) := by
  intro pins s σ H vs us Q I r h
  obtain ⟨a, ns, rfl, hs, hl, q⟩ := h
  obtain ⟨its, rv, p, hz⟩ := I.list hs
  rw [Vals.ref1 r]
  have lim : ns.length + 1 < scanBound := Nat.lt_of_le_of_lt (Nat.succ_le_succ hl) (by decide)
  refine set_ints (I.ok.hd hc) p.isList rv.ints lim fun h' tk n R hn keep => ?_
  have fresh : H s.heap.objs.size = none := I.hok.fresh (Nat.le_refl _)
  exact ⟨.ref _, _, I.laid (t' := tk) keep (Nat.le_refl _) (setO_new R), rfl, q _ n fresh hn⟩
end
end RO

namespace RO
open PySem PySem.Spec PyProof.Rows L2 PpSet

/-! ### {k for x in xs if ..}, k a number -/
section
variable {X : Cx}
/-- one turn's end: k joins the set at D -/
def Joins (w : World) (D : Addr) (Nx : Hp → Prop) : VK := fun y H => ∃ (k : Int) (S : Int → Bool) (n : Nat), y = .int k ∧ H D = some (SetO w D S n) ∧ n + 1 < scanBound ∧ Nx (upd H D (SetO w D (fun j => S j || decide (j = k)) (if S k = true then n else n + 1)))
def tScI (w : World) (wi : TI) (g : TG) (tt : TT) (te : TE) (vs : List Nat) : TE := fun σ H Q => wi σ H fun J H1 => ∀ D, H1 D = none → ∃ W : Nat → Nat → Hp → Prop, (∃ m, W 0 m (upd H1 D (SetO w D (fun _ => false) 0))) ∧ ∀ i m H, W i m H →
  (J.stop i H ∧ Q (.ref D) H) ∨ (J.go i H ∧ ∃ Nx : Hp → Prop, (∀ H', Nx H' → ∃ m', m' < m ∧ W (i + 1) m' H') ∧ ∀ x H', J.yld i H x H' → g x (wipe σ vs) H' fun σ2 H2 => wipe σ2 vs = wipe σ vs ∧ tt σ2 H2 fun b H3 =>
    if b = true then te σ2 H3 (Joins w D Nx) else Nx H3)
theorem pe_scI {elt tg iter : Expr} {ifs : List Expr} {scope : Scope} {own : List (PySem.Str × Nat)} {pos : Pos} {wi : TI} {g : TG} {tt : TT} {te : TE} (hc : X.calm = true) (hN : X.N.Nodup) (hi : PI X tg iter wi) (ok : BlkOk X.N X.env.scope scope own)
    (hg : ∀ (s : Shared) (H : Hp) (C : Addr) (cl : List (PySem.Str × Addr)) (fp : List Addr), PG (X.blk s H scope (compEnvC scope cl C X.env) fp) tg g)
    (ht : ∀ (s : Shared) (H : Hp) (C : Addr) (cl : List (PySem.Str × Addr)) (fp : List Addr), PTs (X.blk s H scope (compEnvC scope cl C X.env) fp) ifs tt)
    (he : ∀ (s : Shared) (H : Hp) (C : Addr) (cl : List (PySem.Str × Addr)) (fp : List Addr), PE (X.blk s H scope (compEnvC scope cl C X.env) fp) elt te) (hs : ∀ x, foldedSetIterable iter X.env x = pure x := by intro _; rfl) :
    PE X (.SetComp elt [⟨tg, iter, ifs, 0⟩] scope pos) (tScI X.w wi g tt te (own.map (·.2))) := by
  constructor
  intro pins s σ H Q I h
  rw [eval_SetComp]
  have cells : ∀ y ∈ scope.names, y.2 = .free → ∃ c, X.env.cells.lookup y.1 = some c := fun y hy e =>
    (ok.free y hy e).elim (fun k => I.ok.has _ (.inl k)) fun k => I.ok.has _ (.inr k)
  apply wpAny_comprehension_free (use := none) rfl hs (closure_ok cells) ok.kind (fun y hy e => by rw [ok.uniq y hy, e])
  apply thn (hi.run pins s σ H _ I h)
  intro xv s1 hx
  apply thn hx
  rintro _ s2 ⟨it, fp, tn, J, H2, rfl, I2, T, at2, free2, q⟩
  apply newSet_ok
  apply newEnv_comp
  have below : ∀ b ∈ fp, b < s2.heap.objs.size := fun b hb => (T.obj _ _ at2 b hb).elim fun o e => Heap.lt_size e.1
  have fresh : H2 s2.heap.objs.size = none := I2.hok.fresh (Nat.le_refl _)
  obtain ⟨W, ⟨m0, start⟩, turn⟩ := q _ fresh
  have I3 : Inv X pins σ (upd H2 s2.heap.objs.size (SetO X.w s2.heap.objs.size (fun _ => false) 0)) { s2 with heap := s2.heap.push (emptySet X.w) } :=
    I2.laid (t' := s2.toks) (fun _ _ e => Heap.get?_push_of_some _ e) (Nat.le_refl _) (setO_new (setR_fresh X.w))
  have at3 : tn 0 (s2.heap.push (emptySet X.w)) := T.keep _ _ _ at2 fun _ _ _ e => Heap.get?_push_of_some _ e
  have ok3 : ∀ b ∈ fp, FpOk X pins (upd H2 s2.heap.objs.size (SetO X.w s2.heap.objs.size (fun _ => false) 0)) b ∧ b < (s2.heap.push (emptySet X.w)).objs.size := fun b hb =>
    ⟨⟨by rw [upd_ne (Nat.ne_of_lt (below b hb))]; exact (free2 b hb).1, (free2 b hb).2⟩, by rw [Heap.size_push]; exact Nat.lt_succ_of_lt (below b hb)⟩
  generalize s2.heap.objs.size = D at *
  generalize upd H2 D (SetO X.w D (fun _ => false) 0) = H3 at *
  suffices key : ∀ s3 : Shared, s3 = { s2 with heap := s2.heap.push (emptySet X.w) } →
      codeAny (model X.prog X.w) X.A (.compStart (.SetComp elt [⟨tg, iter, ifs, 0⟩] scope pos) 0 (.ref it) (.ref D) (compEnvC scope (cellsFrom (s3.heap.objs.size + 1) scope.names (cloFrom X.env.cells scope.names [])) s3.heap.objs.size X.env))
        (compPost (model X.prog X.w) X.A X.xe none (EP X pins σ Q) (.ref D) s3.heap.objs.size) { s3 with heap := pushCells (s3.heap.push { cls := .type "dict", data := .dict #[] }) scope.names } from key _ rfl
  intro s3 es3
  have eh : s3.heap = s2.heap.push (emptySet X.w) := by rw [es3]
  rw [← eh] at at3 ok3
  rw [← es3] at I3
  have I4 := block_start I3 ok hN ok3
  have pg := hg s3 H3 s3.heap.objs.size (cellsFrom (s3.heap.objs.size + 1) scope.names (cloFrom X.env.cells scope.names [])) fp
  have pt := ht s3 H3 s3.heap.objs.size (cellsFrom (s3.heap.objs.size + 1) scope.names (cloFrom X.env.cells scope.names [])) fp
  have pe := he s3 H3 s3.heap.objs.size (cellsFrom (s3.heap.objs.size + 1) scope.names (cloFrom X.env.cells scope.names [])) fp
  have locals : (compEnvC scope (cellsFrom (s3.heap.objs.size + 1) scope.names (cloFrom X.env.cells scope.names [])) s3.heap.objs.size X.env).locals = s3.heap.objs.size := rfl
  generalize compEnvC scope (cellsFrom (s3.heap.objs.size + 1) scope.names (cloFrom X.env.cells scope.names [])) s3.heap.objs.size X.env = ce at *
  have at4 : tn 0 ({ s3 with heap := pushCells (s3.heap.push { cls := .type "dict", data := .dict #[] }) scope.names } : Shared).heap := T.keep _ _ _ at3 fun b _ o e => pushCells_keeps _ _ _ _ (Heap.get?_push_of_some _ e)
  generalize ({ s3 with heap := pushCells (s3.heap.push { cls := .type "dict", data := .dict #[] }) scope.names } : Shared) = s4 at *
  let B := X.blk s3 H3 scope ce fp
  have stay : ∀ (σ' : L2.St) (H' : Hp) (s' : Shared), Inv B [] σ' H' s' → (∀ b ∈ fp, H' b = none) → ∀ b ∈ fp, FpOk B [] H' b := fun σ' H' s' J' free b hb =>
    ⟨free b hb, (J'.ok.exf b hb).1, J'.ok.exfs b hb, .inl hb, (J'.ok.exf b hb).2, fun p hp => nomatch (show p ∈ ([] : List (Addr × Obj)) from hp)⟩
  have loop : codeAny (model X.prog X.w) X.A (.compLoop (.SetComp elt [⟨tg, iter, ifs, 0⟩] scope pos) 0 (.ref it) (.ref D) ce) (compPost (model X.prog X.w) X.A X.xe none (EP X pins σ Q) (.ref D) s3.heap.objs.size) s4 := by
    refine compLoopS_any (fun n s' => ∃ i H', Inv B [] (wipe σ (own.map (·.2))) H' s' ∧ tn i s'.heap ∧ (∀ b ∈ fp, H' b = none) ∧ W i n H') ?_ m0 ⟨0, H3, I4, at4, fun b hb => (ok3 b hb).1.1, start⟩
    rintro n s5 ⟨i, H5, I5, at5, free5, w5⟩
    rcases turn i n H5 w5 with ⟨stop, fin⟩ | ⟨go, Nx, less, step⟩
    · apply thnF (T.done B rfl rfl rfl hc i [] s5 _ H5 (fun _ _ => False) I5 (stay _ _ _ I5 free5) at5 stop)
      rintro r s6 ⟨rfl, I6⟩
      have back : Inv X pins σ H5 s6 := I3.call' (ch := fp) I6.os I6.base I6.hok I6.bare fun b hb => ⟨(ok3 b hb).1.2.2.2.1, (ok3 b hb).1.2.1, (ok3 b hb).1.2.2.2.2.1, (ok3 b hb).1.2.2.2.2.2⟩
      have free : H5 s3.heap.objs.size = none := locals ▸ (show H5 ce.locals = none from I6.free)
      obtain ⟨m, hn, _⟩ := I6.loc
      have hn : s6.heap.Ns s3.heap.objs.size m := locals ▸ (show s6.heap.Ns ce.locals m from hn)
      obtain ⟨f0, f1, f2, f3, f4, f5⟩ := I3.fpOk (Nat.le_refl _) free
      exact ⟨m, hn, fun h'' sb => ⟨.ref D, H5, back.turned (t' := s6.toks) (fun b o hb e => (sb.2 b hb).trans e) f0 f1 f3 f4 f5, rfl, fin⟩⟩
    · apply thnF (T.item B rfl rfl rfl hc i [] s5 _ H5 (fun _ _ => False) I5 (stay _ _ _ I5 free5) at5 go)
      rintro r s6 ⟨u, rfl, h6⟩
      apply thnF h6
      rintro _ s7 ⟨x, H7, I7, r7, y7, at7, free7⟩
      apply thnF (pg.run _ s7 _ H7 x u _ (I7.pinned (stay _ _ _ I7 free7) (T.obj _ _ at7)) r7 (step x H7 y7))
      rintro _ s8 ⟨σ8, H8, I8, wiped, q8⟩
      apply thnF (pt.run _ s8 σ8 H8 _ I8 q8)
      rintro b s9 ⟨H9, I9, q9⟩
      have next : ∀ (s' : Shared) (H' : Hp), Inv B ([] ++ pinsAt fp s7.heap) σ8 H' s' → Nx H' → ∃ m, m < n ∧ ∃ i H', Inv B [] (wipe σ (own.map (·.2))) H' s' ∧ tn i s'.heap ∧ (∀ b ∈ fp, H' b = none) ∧ W i m H' := fun s' H' J' nx => by
        obtain ⟨m', lt, w'⟩ := less H' nx
        have pin : ∀ b ∈ fp, ∀ o, s7.heap.get? b = some o → s'.heap.get? b = some o ∧ H' b = none := fun b hb o e =>
          have z := J'.pin (b, o) (List.mem_append_right _ (List.mem_append_right _ (mem_pinsAt hb e)))
          ⟨z.1, z.2.1⟩
        refine ⟨m', lt, i + 1, H', (J'.unpinned (pins := [])).weak (by rw [← wiped, wipe_length]) (fun j v e => ?_), T.keep _ _ _ at7 fun b hb o e => (pin b hb o e).1, fun b hb => ?_, w'⟩
        · rw [← wiped] at e
          exact (wipe_some e).1
        · obtain ⟨o, e, _⟩ := T.obj _ _ at7 b hb
          exact (pin b hb o e).2
      cases b with
      | false => exact next s9 H9 I9 q9
      | true =>
        apply thnF (pe.run _ s9 σ8 H9 _ I9 q9)
        rintro z s10 ⟨yv, H10, I10, r10, k, S, c, rfl, hD, room, nx⟩
        apply thnF (mt_sadd (X := B) _ s10 σ8 H10 (.ref D) [.int k] (.ref D) [z] (fun _ H' => Nx H') I10 rfl (.cons r10 .nil) ⟨D, k, S, c, rfl, rfl, hD, room, nx⟩)
        rintro _ s11 ⟨_, H11, I11, _, nx⟩
        exact next s11 H11 I11 nx
  exact codeAny_compStart_set loop (T.self X.A 0 _ _ _ at4 loop)
end
end RO

namespace RO
open PySem PySem.Spec PyProof.Rows L2
section
variable {J : It} {n : Nat} {G : Hp → Prop} {Y : Nat → Hp → V → Hp → Prop}
/-- a set's comprehension over what is walked: Pv by the turn and the heap -/
theorem sc_it {ww : World} (wk : Walk J n G Y) {g : TG} {tt : TT} {te : TE} {vs : List Nat} {σ : L2.St} {H1 : Hp} {D : Addr} {Qd : Hp → Prop} (Pv : Nat → Hp → Prop) (h0 : Pv 0 (upd H1 D (SetO ww D (fun _ => false) 0))) (hG : ∀ i H, i ≤ n → Pv i H → G H)
    (hs : ∀ i x H H', i < n → Pv i H → Y i H x H' → g x (wipe σ vs) H' fun σ2 H2 => wipe σ2 vs = wipe σ vs ∧ tt σ2 H2 fun b H3 => if b = true then te σ2 H3 (Joins ww D (Pv (i + 1))) else Pv (i + 1) H3) (hd : ∀ H, Pv n H → Qd H) :
    ∃ W : Nat → Nat → Hp → Prop, (∃ m, W 0 m (upd H1 D (SetO ww D (fun _ => false) 0))) ∧ ∀ i m H, W i m H →
      (J.stop i H ∧ Qd H) ∨ (J.go i H ∧ ∃ Nx : Hp → Prop, (∀ H', Nx H' → ∃ m', m' < m ∧ W (i + 1) m' H') ∧ ∀ x H', J.yld i H x H' → g x (wipe σ vs) H' fun σ2 H2 => wipe σ2 vs = wipe σ vs ∧ tt σ2 H2 fun b H3 =>
        if b = true then te σ2 H3 (Joins ww D Nx) else Nx H3) := by
  refine ⟨fun i m H => m = n - i ∧ i ≤ n ∧ Pv i H, ⟨n, by simp, Nat.zero_le _, h0⟩, ?_⟩
  rintro i m H ⟨rfl, le, p⟩
  have q := hG i H le p
  rcases Nat.lt_or_ge i n with lt | ge
  · exact .inr ⟨wk.goes i H lt q, Pv (i + 1), fun H' p' => ⟨n - (i + 1), by omega, rfl, lt, p'⟩, fun x H' y => hs i x H H' lt p (wk.yields i H x H' lt q y)⟩
  · obtain rfl : i = n := by omega
    exact .inl ⟨wk.stops H q, hd H p⟩
end
theorem k_setI (K : PySem.W.Frag) (ww : World) {X : Cx} (hc : X.calm = true) (h : X.K = K := by rfl) (h2 : X.w = ww := by rfl) : CallR X (.type "set") (rSetI K ww) := by
  subst h h2
  exact cr_setI hc
theorem k_sortedSet (ww : World) {X : Cx} (hc : X.calm = true) (h2 : X.w = ww := by rfl) : CallR X (.builtin "sorted") (rSortedSet ww) := by
  subst h2
  exact cr_sortedSet hc
theorem asc_ext : ∀ {a b : List Int}, a.Pairwise (· < ·) → b.Pairwise (· < ·) → (∀ k, k ∈ a ↔ k ∈ b) → a = b
  | [], [], _, _, _ => rfl
  | [], y :: b, _, _, h => nomatch (h y).mpr (List.mem_cons_self ..)
  | x :: a, [], _, _, h => nomatch (h x).mp (List.mem_cons_self ..)
  | x :: a, y :: b, ha, hb, h => by
    obtain ⟨a1, a2⟩ := List.pairwise_cons.mp ha
    obtain ⟨b1, b2⟩ := List.pairwise_cons.mp hb
    have e : x = y := by
      rcases List.mem_cons.mp ((h x).mp (List.mem_cons_self ..)) with q | q
      · exact q
      · rcases List.mem_cons.mp ((h y).mpr (List.mem_cons_self ..)) with z | z
        · exact z.symm
        · have := b1 x q
          have := a1 y z
          omega
    subst e
    refine congrArg (x :: ·) (asc_ext a2 b2 fun k => ⟨fun hk => ?_, fun hk => ?_⟩)
    · rcases List.mem_cons.mp ((h k).mp (List.mem_cons_of_mem _ hk)) with q | q
      · have := a1 k hk
        omega
      · exact q
    · rcases List.mem_cons.mp ((h k).mpr (List.mem_cons_of_mem _ hk)) with q | q
      · have := b1 k hk
        omega
      · exact q
end RO

namespace RO
open PySem PySem.Spec PyProof.Rows L2
/-! ### tuples put together and cut, whatever their lengths -/
/-- x + y, two tuples: a tuple of both, new or one of them -/
def rCatU (K : PySem.W.Frag) : R2 := fun x y H Q => ∃ a b xs ys, x = .ref a ∧ y = .ref b ∧ SqT K H a xs ∧ SqT K H b ys ∧ xs.length + ys.length ≤ sizeLine ∧ ∀ q H', Same H H' → SqT K H' q (xs ++ ys) → Q (.ref q) H'
theorem k_catU (K : PySem.W.Frag) {X : Cx} (h : X.K = K := by rfl) : OpR X (binaryOp .Add) (rCatU K) := by
  subst h
  rintro pins s σ H x y v u Q I rx ry ⟨a, b, xs, ys, rfl, rfl, ha, hb, hz, q⟩
  by_cases hx : xs = []
  · subst hx
    cases rx
    cases ry
    obtain ⟨its, r1, p1, _⟩ := I.tuple ha
    obtain ⟨its2, r2, p2, _⟩ := I.tuple hb
    cases r1
    exact cat_tup0 p1 p2 ⟨.ref b, H, I, rfl, q b H (Same.refl _) hb⟩
  · refine op_catT pins s σ H (.ref a) (.ref b) v u Q I rx ry ⟨a, b, xs, ys, rfl, rfl, ha, hb, hx, hz, fun e => ?_, fun _ p hp => ?_⟩
    · subst e
      exact q a H (Same.refl _) (by rw [List.append_nil]; exact ha)
    · exact q p _ (same_new (Same.refl _) hp) (SqT.of upd_same)
/-- x[lo:hi], x a tuple: a tuple, new or itself -/
def rSlU (K : PySem.W.Frag) : V → Option Int → Option Int → Hp → VK → Prop := fun x lo hi H Q => ∃ a xs, x = .ref a ∧ SqT K H a xs ∧ ∀ q H', Same H H' → SqT K H' q (cutV xs lo hi) → Q (.ref q) H'
theorem k_slU (K : PySem.W.Frag) {X : Cx} (h : X.K = K := by rfl) : SlR X (rSlU K) := by
  subst h
  rintro pins s σ H x v vl vu lo hi sl Q I rx hs pl pu ⟨a, xs, rfl, ha, q⟩
  refine sl_tupA pins s σ H (.ref a) v vl vu lo hi sl Q I rx hs pl pu ⟨a, xs, rfl, ha, fun z => ?_, fun z p hp => ?_⟩
  · refine q a H (Same.refl _) ?_
    have e : cutV xs lo hi = xs := by
      unfold cutV
      rw [z.1, z.2, List.drop_zero, Nat.sub_zero, List.take_length]
    rw [e]
    exact ha
  · exact q p _ (same_new (Same.refl _) hp) (SqT.of upd_same)
theorem k_max (K : PySem.W.Frag) {X : Cx} (hc : X.calm = true) (h : X.K = K := by rfl) : CallR X (.builtin "max") (rMax K) := by
  subst h
  exact cr_max hc
end RO

namespace RO
/-! ### sums over stretches of whole numbers, forward and back -/
def nsum (f : Int → Int) : Nat → Int
  | 0 => 0
  | n + 1 => nsum f n + f n
def zsum (f : Int → Int) : Int → Int
  | .ofNat n => nsum f n
  | .negSucc n => - nsum (fun i => f (-i - 1)) (n + 1)
theorem zsum_nat (f : Int → Int) (n : Nat) : zsum f (n : Int) = nsum f n := rfl
theorem zsum_0 (f : Int → Int) : zsum f 0 = 0 := rfl
theorem zsum_succ (f : Int → Int) (n : Int) : zsum f (n + 1) = zsum f n + f n := by
  cases n with
  | ofNat n => rfl
  | negSucc n =>
    cases n with
    | zero =>
      show (0 : Int) = - (0 + f (-((0 : Nat) : Int) - 1)) + f (-1)
      have e : (-((0 : Nat) : Int) - 1) = -1 := rfl
      rw [e]
      omega
    | succ k =>
      show - nsum (fun i => f (-i - 1)) (k + 1) = - (nsum (fun i => f (-i - 1)) (k + 1) + f (-((k + 1 : Nat) : Int) - 1)) + f (Int.negSucc (k + 1))
      have e : (-((k + 1 : Nat) : Int) - 1) = Int.negSucc (k + 1) := by omega
      rw [e]
      omega
theorem zsum_uniq {f g : Int → Int} (h0 : g 0 = 0) (h : ∀ n, g (n + 1) = g n + f n) (n : Int) : g n = zsum f n := by
  have up : ∀ k : Nat, g (k : Int) = zsum f (k : Int) := by
    intro k
    induction k with
    | zero => exact h0
    | succ i ih => rw [show ((i + 1 : Nat) : Int) = (i : Int) + 1 from rfl, h, ih, zsum_succ]
  have down : ∀ k : Nat, g (-(k : Int)) = zsum f (-(k : Int)) := by
    intro k
    induction k with
    | zero => exact h0
    | succ i ih =>
      have a := h (-(i : Int) - 1)
      have b := zsum_succ f (-(i : Int) - 1)
      have e : -(i : Int) - 1 + 1 = -(i : Int) := by omega
      have e2 : -((i + 1 : Nat) : Int) = -(i : Int) - 1 := by omega
      rw [e] at a b
      rw [e2]
      omega
  rcases Int.natAbs_eq n with e | e
  · rw [e]; exact up _
  · rw [e]; exact down _
theorem zsum_congr {f g : Int → Int} (h : ∀ i, f i = g i) (n : Int) : zsum f n = zsum g n :=
  zsum_uniq (zsum_0 f) (fun i => by rw [zsum_succ, h]) n
theorem zsum_add (f : Int → Int) (a b : Int) : zsum f (a + b) = zsum f a + zsum (fun i => f (a + i)) b := by
  have h := zsum_uniq (f := fun i => f (a + i)) (g := fun i => zsum f (a + i) - zsum f a) (by show zsum f (a + 0) - _ = _; rw [Int.add_zero]; omega)
    (fun n => by show zsum f (a + (n + 1)) - _ = zsum f (a + n) - _ + f (a + n); rw [← Int.add_assoc, zsum_succ]; omega) b
  have h : zsum f (a + b) - zsum f a = _ := h
  omega
theorem zsum_neg (f : Int → Int) (n : Int) : zsum (fun i => - f i) n = - zsum f n :=
  (zsum_uniq (f := fun i => - f i) (g := fun i => - zsum f i) (by show - zsum f 0 = 0; rw [zsum_0]; rfl) (fun i => by show - zsum f (i + 1) = - zsum f i + - f i; rw [zsum_succ]; omega) n).symm
theorem zsum_const (c n : Int) : zsum (fun _ => c) n = n * c :=
  (zsum_uniq (f := fun _ => c) (g := fun i => i * c) (Int.zero_mul c) (fun i => by show (i + 1) * c = i * c + c; rw [Int.add_mul, Int.one_mul]) n).symm
/-- what is told by rounds is the sum -/
theorem rounds_sum {f : Int → Int} {m : Int} (hm : 0 < m) (per : ∀ i, f (i + m) = f i) (n : Int) : n / m * nsum f m.toNat + nsum f (n % m).toNat = zsum f n := by
  have perk : ∀ (k : Nat) (i : Int), f (i + m * k) = f i := by
    intro k
    induction k with
    | zero => intro i; rw [show i + m * ((0 : Nat) : Int) = i by rw [Int.natCast_zero, Int.mul_zero, Int.add_zero]]
    | succ k ih => intro i; rw [show i + m * ((k + 1 : Nat) : Int) = (i + m * (k : Int)) + m by rw [Int.natCast_add, Int.mul_add]; omega, per, ih]
  have perz : ∀ (q i : Int), f (i + m * q) = f i := by
    intro q i
    cases q with
    | ofNat k => exact perk k i
    | negSucc k =>
      have h := perk (k + 1) (i + m * Int.negSucc k)
      have e : i + m * Int.negSucc k + m * ((k + 1 : Nat) : Int) = i := by
        rw [Int.add_assoc, ← Int.mul_add, show Int.negSucc k + ((k + 1 : Nat) : Int) = 0 by omega, Int.mul_zero, Int.add_zero]
      rw [e] at h
      exact h.symm
  refine zsum_uniq (f := f) (g := fun n => n / m * nsum f m.toNat + nsum f (n % m).toNat) ?_ (fun n => ?_) n
  · show 0 / m * _ + nsum f (0 % m).toNat = 0
    rw [Int.zero_ediv, Int.zero_emod, Int.zero_mul]
    rfl
  · show (n + 1) / m * nsum f m.toNat + nsum f ((n + 1) % m).toNat = n / m * nsum f m.toNat + nsum f (n % m).toNat + f n
    have r0 := Int.emod_nonneg n (show m ≠ 0 by omega)
    have r1 := Int.emod_lt_of_pos n hm
    have dm := Int.emod_add_mul_ediv n m
    have fn : f n = f (n % m) := by
      have h := perz (n / m) (n % m)
      rw [dm] at h
      exact h
    obtain ⟨k, hk⟩ := Int.eq_ofNat_of_zero_le r0
    by_cases c : n % m + 1 < m
    · have e1 : (n + 1) / m = n / m ∧ (n + 1) % m = n % m + 1 := by
        rw [Int.ediv_emod_unique hm]
        refine ⟨?_, by omega, c⟩
        omega
      rw [e1.1, e1.2, fn, hk]
      show _ + (nsum f k + f k) = _ + nsum f k + f k
      omega
    · have e1 : (n + 1) / m = n / m + 1 ∧ (n + 1) % m = 0 := by
        rw [Int.ediv_emod_unique hm]
        refine ⟨?_, by omega, hm⟩
        rw [Int.mul_add]
        omega
      have em : m.toNat = k + 1 := by omega
      rw [e1.1, e1.2, fn, hk, em]
      show (n / m + 1) * (nsum f k + f k) + 0 = n / m * (nsum f k + f k) + nsum f k + f k
      rw [Int.add_mul, Int.one_mul]
      omega
/-- a whole round is added as often as it is gone -/
theorem zsum_rounds {f : Int → Int} {m : Int} (per : ∀ i, f (i + m) = f i) (a q : Int) : zsum f (a + q * m) = zsum f a + q * (zsum f (a + m) - zsum f a) := by
  have shift : ∀ n, zsum f (n + m) - zsum f n = zsum f m := by
    intro n
    have h := zsum_uniq (f := f) (g := fun n => zsum f (n + m) - zsum f m) (by show zsum f (0 + m) - _ = 0; rw [Int.zero_add]; omega)
      (fun n => by show zsum f (n + 1 + m) - _ = zsum f (n + m) - _ + f n; rw [show n + 1 + m = n + m + 1 by omega, zsum_succ, per]; omega) n
    have h : zsum f (n + m) - zsum f m = zsum f n := h
    omega
  have h : ∀ q : Int, zsum f (a + q * m) - zsum f a = zsum (fun _ => zsum f m) q := by
    intro q
    refine zsum_uniq (f := fun _ => zsum f m) (g := fun q => zsum f (a + q * m) - zsum f a) ?_ (fun q => ?_) q
    · show zsum f (a + 0 * m) - _ = 0
      rw [Int.zero_mul, Int.add_zero]
      omega
    · show zsum f (a + (q + 1) * m) - _ = zsum f (a + q * m) - _ + zsum f m
      have e : a + (q + 1) * m = a + q * m + m := by rw [Int.add_mul, Int.one_mul]; omega
      have := shift (a + q * m)
      rw [e]
      omega
  have h1 := h q
  rw [zsum_const] at h1
  rw [shift a]
  omega
/-! ### headings -/
/-- the number of the heading of a swing -/
def hdg (s p : Int) : Int := s / p % 8
def hxs : List Int := [0, 1, 1, 1, 0, -1, -1, -1]
def hys : List Int := [1, 1, 0, -1, -1, -1, 0, 1]
def dx (s p : Int) : Int := hxs.getD (hdg s p).toNat 0
def dy (s p : Int) : Int := hys.getD (hdg s p).toNat 0
theorem hdg_range (s p : Int) : 0 ≤ hdg s p ∧ hdg s p < 8 := ⟨Int.emod_nonneg _ (by decide), Int.emod_lt_of_pos _ (by decide)⟩
theorem hdg_per {p : Int} (hp : 0 < p) (s k : Int) : hdg (s + 8 * p * k) p = hdg s p := by
  unfold hdg
  rw [show s + 8 * p * k = s + p * (8 * k) by rw [Int.mul_comm 8 p, Int.mul_assoc], Int.add_mul_ediv_left _ _ (by omega), Int.add_mul_emod_self_left]
theorem dx_per {p : Int} (hp : 0 < p) (s k : Int) : dx (s + 8 * p * k) p = dx s p := by unfold dx; rw [hdg_per hp]
theorem dy_per {p : Int} (hp : 0 < p) (s k : Int) : dy (s + 8 * p * k) p = dy s p := by unfold dy; rw [hdg_per hp]
/-- the minutes of a round -/
def roundOf (v p : Int) : Int := 8 * p / ((Nat.gcd v.natAbs (8 * p).natAbs : Nat) : Int)
theorem roundOf_spec {p : Int} (hp : 0 < p) (v : Int) : 0 < roundOf v p ∧ roundOf v p ≤ 8 * p ∧ ∃ k, roundOf v p * v = 8 * p * k := by
  have hc : 0 < 8 * p := by omega
  have g0 : 0 < Nat.gcd v.natAbs (8 * p).natAbs := Nat.gcd_pos_of_pos_right _ (by omega)
  obtain ⟨a, ha⟩ := Nat.gcd_dvd_left v.natAbs (8 * p).natAbs
  obtain ⟨b, hb⟩ := Nat.gcd_dvd_right v.natAbs (8 * p).natAbs
  unfold roundOf
  generalize Nat.gcd v.natAbs (8 * p).natAbs = g at *
  have eb : 8 * p = (g : Int) * (b : Int) := by rw [← Int.natCast_mul, ← hb]; omega
  have er : 8 * p / (g : Int) = (b : Int) := by rw [eb, Int.mul_ediv_cancel_left _ (by omega)]
  rw [er]
  have b0 : b ≠ 0 := fun z => by rw [z, Int.natCast_zero, Int.mul_zero] at eb; omega
  refine ⟨by omega, ?_, ?_⟩
  · rw [eb]
    have : b ≤ g * b := Nat.le_mul_of_pos_left b g0
    rw [← Int.natCast_mul]
    omega
  · obtain ⟨va, hva⟩ : ∃ va : Int, v = (g : Int) * va := by
      rcases Int.natAbs_eq v with z | z
      · exact ⟨a, by rw [z, ha, Int.natCast_mul]⟩
      · exact ⟨-a, by rw [z, ha, Int.natCast_mul, Int.mul_neg]⟩
    refine ⟨va, ?_⟩
    rw [eb, hva, ← Int.mul_assoc, Int.mul_comm (b : Int) (g : Int)]
theorem round_per {h : Int → Int → Int} {p : Int} (hp : 0 < p) (per : ∀ s k, h (s + 8 * p * k) p = h s p) (s v i : Int) : h (s + (i + roundOf v p) * v) p = h (s + i * v) p := by
  obtain ⟨k, hk⟩ := (roundOf_spec hp v).2.2
  rw [show s + (i + roundOf v p) * v = s + i * v + 8 * p * k by rw [Int.add_mul, hk]; omega, per]
/-- where she is: x, y, swing -/
structure Boat where
  x : Int
  y : Int
  s : Int
def sailed (b : Boat) (port star n p : Int) : Boat :=
  ⟨b.x + (port + star) * zsum (fun i => dx (b.s + i * (port - star)) p) n, b.y + (port + star) * zsum (fun i => dy (b.s + i * (port - star)) p) n, b.s + n * (port - star)⟩
theorem sailed_0 (b : Boat) (port star p : Int) : sailed b port star 0 p = b := by
  unfold sailed
  rw [zsum_0, zsum_0, Int.mul_zero, Int.zero_mul, Int.add_zero, Int.add_zero, Int.add_zero]
/-- in pieces -/
theorem sailed_add (b : Boat) (port star m n p : Int) : sailed (sailed b port star m p) port star n p = sailed b port star (m + n) p := by
  unfold sailed
  have e : ∀ i : Int, b.s + m * (port - star) + i * (port - star) = b.s + (m + i) * (port - star) := fun i => by rw [Int.add_mul]; omega
  simp only [e]
  rw [zsum_add _ m n, zsum_add _ m n, Int.mul_add, Int.mul_add, Int.add_assoc, Int.add_assoc]
end RO

namespace RO
open PySem PySem.Spec PyProof.Rows L2 RZ
/-! ### zip of two lists or two tuples, K said -/
theorem k_piZip (K : PySem.W.Frag) {X : Cx} {e e2 : Expr} {ta : TA} {p pos tpos : Pos} {elts : List Expr} {kk : Nat} (hg : Gl X "zip") (hm : X.mg "zip" = none) (ha : PA X [e, e2] ta)
    (hs : starEach [e, e2] X.env = (false, eval e X.env) :: starEach [e2] X.env := by rfl) (hpl : (backTo pos (starEach [e2] X.env)).any (·.1) = false := by rfl) (hK : X.K = K := by rfl) :
    PI X (.Tuple elts kk tpos) (.Call (.Name "zip" p) [e, e2] [] pos) (iZipA K ta) := by
  subst hK
  exact pi_zipA hg hm ha hs hpl
theorem walk_zipT {K : PySem.W.Frag} {a b : Addr} {xs ys : List V} {n : Nat} (hn : n = min xs.length ys.length) : Walk (ItzT K a b) n (fun H => SqT K H a xs ∧ SqT K H b ys) (YPair (fun i => xs[i]?) (fun i => ys[i]?)) := by
  subst hn
  refine ⟨fun i _ hi q => ?_, fun _ q => ⟨xs, ys, q.1, q.2, by omega⟩, fun i H v H' _ q y => ?_⟩
  · have h1 : i < xs.length := by omega
    have h2 : i < ys.length := by omega
    exact ⟨xs, ys, xs[i], ys[i], q.1, q.2, by simp [h1], by simp [h2]⟩
  · obtain ⟨T, x, z, h1, h2, h3, h4, h5⟩ := y
    exact ⟨T, x, z, h1, h2, h3, h4 xs q.1, h5 ys q.2⟩
end RO

namespace PySem.F
theorem zip_no_len : typeLookup (.type "zip") "__len__" = pure none := am_miss_of_fast (by decide +kernel)
theorem zip_no_hint : typeLookup (.type "zip") "__length_hint__" = pure none := am_miss_of_fast (by decide +kernel)
end PySem.F
namespace RO
open PySem PySem.Spec PyProof.Rows L2
/-! ### list(zip(xs, ys)), two lists -/
/-- zip at its turn i, as list(..) walks it; S the list that is made -/
def ZAt (l1 l2 z TI TO i1 i2 S : Addr) (i : Nat) (h : Heap) : Prop :=
  (∀ c ∈ [z, TI, TO, i1, i2], c < h.objs.size) ∧ IsPair h TI (.ref i1) (.ref i2) ∧ h.IsListIter i1 l1 i ∧ h.IsListIter i2 l2 i ∧
  ((IsZip h z TI TO .none ∧ ∃ a b, IsPair h TO a b) ∨ ∃ T f oT, IsZipHeld h z TI TO T f ∧ h.get? T = some oT ∧ T ≠ z ∧ T ≠ i1 ∧ T ≠ i2 ∧ T ≠ S)
def Pairs (H : Hp) (xs ys : List V) (S : Addr) (ps : List Addr) : Prop := ∀ (j : Nat) (p : Addr), ps[j]? = some p → p ≠ S ∧ ∃ x y, xs[j]? = some x ∧ ys[j]? = some y ∧ H p = some (.tup [x, y])
theorem fp_stat {X : Cx} {pins : List (Addr × Obj)} {H H' : Hp} {b : Addr} (h : FpOk X pins H b) (hn : H' b = none) : FpOk X pins H' b := ⟨hn, h.2⟩
section
variable {X : Cx} {pins : List (Addr × Obj)} {σ : L2.St} {l1 l2 z TI TO i1 i2 S : Addr} {xs ys : List V} {R : Result → Shared → Prop} {res : Value} {A : Around}
theorem zip_loop (hA : A.handled = none) (D : ZipApart z TI TO i1 i2 l1 l2) (hS : S ∉ [z, TI, TO, i1, i2]) (H0 : Hp) (hl : min xs.length ys.length ≤ sizeLine) :
    ∀ (k i : Nat) (s : Shared) (H : Hp) (ps : List Addr), min xs.length ys.length - i = k → i ≤ min xs.length ys.length → Inv X pins σ H s → (∀ b ∈ [z, TI, TO, i1, i2], FpOk X pins H b) → ZAt l1 l2 z TI TO i1 i2 S i s.heap →
    SqL X.K H l1 xs → SqL X.K H l2 ys → l1 ≠ S → l2 ≠ S → But S H0 H → H S = some (.lst (ps.map V.ref)) → ps.length = i → Pairs H xs ys S ps →
    (∀ H' s' ps', Inv X pins σ H' s' → But S H0 H' → H' S = some (.lst (ps'.map V.ref)) → ps'.length = min xs.length ys.length → Pairs H' xs ys S ps' → R (.ok (.ret res)) s') →
    codeAny (model X.prog X.w) A (.builtin "list.extend.loop" ⟨[.ref S, .ref z, res], []⟩) R s := by
  intro k
  induction k with
  | zero =>
    intro i s H ps hk hi I hf st hq1 hq2 n1 n2 b0 eS lp hp hR
    have hin : i = min xs.length ys.length := by omega
    refine codeAny_builtin F.entry_extend_loop ?_
    rw [Around.under_plainId F.plain_extend_loop _]
    show wpAny _ A.in1 (pyNext (.ref z) >>= _) _ _ s
    obtain ⟨szs, hTI, h1, h2, hz⟩ := st
    obtain ⟨its, rv, p, _⟩ := I.list hq1
    obtain ⟨its2, rv2, p2, _⟩ := I.list hq2
    have e1 := rv.length
    have e2 := rv2.length
    have he : its.toArray[i]? = none ∨ its2.toArray[i]? = none := by
      rcases Nat.le_total xs.length ys.length with h | h
      · exact .inl (by simp; omega)
      · exact .inr (by simp; omega)
    have fin : ∀ h', (∀ c o, c ≠ z → c ≠ TO → c ≠ i1 → c ≠ i2 → s.heap.get? c = some o → h'.get? c = some o) → Inv X pins σ H { s with heap := h' } := fun h' hk =>
      I.turnedL (t' := s.toks) (ch := [z, TI, TO, i1, i2]) (fun c o hb q => hk c o (fun q' => hb (by simp [q'])) (fun q' => hb (by simp [q'])) (fun q' => hb (by simp [q'])) (fun q' => hb (by simp [q'])) q) hf
    rcases hz with ⟨hz, a, b, hTO⟩ | ⟨T, f, oT, hz, hT, r1, r2, r3, r4⟩
    · refine wpAny_bind (wpAny_pyNext_zip_end (A := A.in1) hA D hz hTI hTO h1 h2 p.isList p2.isList he fun h' hk => ?_)
      exact wpAny_pure (hR H _ ps (fin h' hk) b0 eS (by omega) hp)
    · refine wpAny_bind (wpAny_pyNext_zip_end_held (A := A.in1) hA D hz hT hTI h1 h2 p.isList p2.isList he fun h' hk => ?_)
      exact wpAny_pure (hR H _ ps (fin h' fun c o q1 q2 q3 q4 => hk c o q1 q3 q4) b0 eS (by omega) hp)
  | succ k ih =>
    intro i s H ps hk hi I hf st hq1 hq2 n1 n2 b0 eS lp hp hR
    have hlt : i < min xs.length ys.length := by omega
    refine codeAny_builtin F.entry_extend_loop ?_
    rw [Around.under_plainId F.plain_extend_loop _]
    show wpAny _ A.in1 (pyNext (.ref z) >>= _) _ _ s
    obtain ⟨szs, hTI, h1, h2, hz⟩ := st
    obtain ⟨its, rv, p, _⟩ := I.list hq1
    obtain ⟨its2, rv2, p2, _⟩ := I.list hq2
    obtain ⟨x, hx⟩ : ∃ x, xs[i]? = some x := ⟨_, List.getElem?_eq_getElem (by omega)⟩
    obtain ⟨y, hy⟩ : ∃ y, ys[i]? = some y := ⟨_, List.getElem?_eq_getElem (by omega)⟩
    obtain ⟨u, hu, ru⟩ := rv.get hx
    obtain ⟨u2, hu2, ru2⟩ := rv2.get hy
    have hzl : z < s.heap.objs.size := by
      rcases hz with ⟨hz, _⟩ | ⟨_, _, _, hz, _⟩ <;> exact Heap.lt_size hz
    have lt : ∀ {c o}, s.heap.get? c = some o → s.heap.objs.size ≠ c := fun e => Nat.ne_of_gt (Heap.lt_size e)
    have m1 : s.heap.objs.size ≠ i1 := let ⟨_, e, _⟩ := h1; lt e
    have m2 : s.heap.objs.size ≠ i2 := let ⟨_, e, _⟩ := h2; lt e
    have mz : s.heap.objs.size ≠ z := Nat.ne_of_gt hzl
    have hSs : s.heap.objs.size ≠ S := fun e => by
      have := I.hok.fresh (Nat.le_refl s.heap.objs.size)
      rw [e, eS] at this
      cases this
    have hlz : s.heap.objs.size ≠ TI := lt hTI
    have fpT : ∀ c ∈ [z, TI, TO, i1, i2], c ≠ s.heap.objs.size := fun c hc => Nat.ne_of_lt (szs c hc)
    -- what is put behind
    have put : ∀ (h' : Heap), h'.objs.size = s.heap.objs.size + 1 → (∀ c o, c ≠ z → c ≠ TO → c ≠ i1 → c ≠ i2 → s.heap.get? c = some o → h'.get? c = some o) → IsPair h' s.heap.objs.size u u2 → h'.IsListIter i1 l1 (i + 1) → h'.IsListIter i2 l2 (i + 1) →
        ((IsZip h' z TI TO .none ∧ ∃ a b, IsPair h' TO a b) ∨ ∃ T f oT, IsZipHeld h' z TI TO T f ∧ h'.get? T = some oT ∧ T ≠ z ∧ T ≠ i1 ∧ T ≠ i2 ∧ T ≠ S) →
        wpAny (model X.prog X.w) A.in1 (updateSeq S (·.push (.ref s.heap.objs.size)) >>= fun _ => again (.builtin "list.extend.loop" ⟨[.ref S, .ref z, res], []⟩))
          (fun fin s' => match fin with | .done f => R (.ok f) s' | .again c' => c'.quiet = true ∧ codeAny (model X.prog X.w) A c' R s') (fun e s' => R (.error e) s') { s with heap := h' } := by
      intro h' hsz hk hT a3 a4 hz'
      have new : ObjOk X.prog X.w (upd H s.heap.objs.size (.tup [x, y])) h' s.heap.objs.size (.tup [x, y]) :=
        ⟨by show 2 ≤ sizeLine; decide, [u, u2], .cons ru (.cons ru2 .nil), ⟨_, hT, rfl, _, rfl⟩⟩
      have I1 : Inv X pins σ (upd H s.heap.objs.size (.tup [x, y])) { s with heap := h' } :=
        I.turnedNew (t' := s.toks) (ch := [z, TI, TO, i1, i2]) (fun c o hb q => hk c o (fun q' => hb (by simp [q'])) (fun q' => hb (by simp [q'])) (fun q' => hb (by simp [q'])) (fun q' => hb (by simp [q'])) q) hf (Nat.le_refl _) new
      have eS1 : (upd H s.heap.objs.size (.tup [x, y])) S = some (.lst (ps.map V.ref)) := (upd_ne (Ne.symm hSs)).trans eS
      obtain ⟨lz, its3, n3, rv3, _, hS3⟩ := I1.lstM eS1
      have e3 := rv3.length
      rw [List.length_map, lp] at e3
      have I2 := I1.lset (its' := its3 ++ [.ref s.heap.objs.size]) (f := fun a => a.push (.ref s.heap.objs.size)) (ys := ps.map V.ref ++ [V.ref s.heap.objs.size]) (t' := s.toks) eS1 hS3 (by simp) (rv3.append (.cons (show L2.RelV (V.ref s.heap.objs.size) (.ref s.heap.objs.size) from rfl) .nil)) (by rw [List.length_append, List.length_map, lp]; show i + 1 ≤ _; omega)
      have same1 : Same H (upd H s.heap.objs.size (.tup [x, y])) := same_new (Same.refl _) (I.hok.fresh (Nat.le_refl _))
      refine wpAny_bind ?_
      refine wpAny_updateSeq hS3 rfl (wpAny_pure ⟨plainId_quiet F.plain_extend_loop _, ih (i + 1) _ _ (ps ++ [s.heap.objs.size]) (by omega) hlt I2 (fun c hc => ?_) ⟨fun c hc => ?_, ?_, ?_, ?_, ?_⟩ ?_ ?_ n1 n2 ?_ ?_ ?_ ?_ hR⟩) ?_ ?_
      · have nS : c ≠ S := fun e => hS (e ▸ hc)
        exact fp_stat (hf c hc) (by rw [upd_ne nS, upd_ne (fpT c hc)]; exact (hf c hc).1)
      · rw [Heap.size_update, hsz]
        exact Nat.lt_succ_of_lt (szs c hc)
      · have nS : TI ≠ S := fun e => hS (by simp [← e])
        exact (Heap.get?_update_other _ _ (Ne.symm nS)).trans (hk _ _ D.TIz D.TITO D.TIi1 D.TIi2 hTI)
      · exact a3.at fun o q => (Heap.get?_update_other _ _ (fun e => hS (by simp [e]))).trans q
      · exact a4.at fun o q => (Heap.get?_update_other _ _ (fun e => hS (by simp [e]))).trans q
      · rcases hz' with ⟨hz, a, b, hTO⟩ | ⟨T, f, oT, hz, hT, r1, r2, r3, r4⟩
        · exact .inl ⟨(Heap.get?_update_other _ _ (fun e => hS (by simp [e]))).trans hz, a, b, (Heap.get?_update_other _ _ (fun e => hS (by simp [e]))).trans hTO⟩
        · exact .inr ⟨T, f, oT, (Heap.get?_update_other _ _ (fun e => hS (by simp [e]))).trans hz, (Heap.get?_update_other _ _ (Ne.symm r4)).trans hT, r1, r2, r3, r4⟩
      · exact But.put.seqL n1 (same_seqL same1 hq1)
      · exact But.put.seqL n2 (same_seqL same1 hq2)
      · exact (b0.trans (But.of_same same1)).trans But.put
      · rw [upd_same, List.map_append]
        rfl
      · rw [List.length_append, lp]
        rfl
      · intro j p' hj
        by_cases cc : j < ps.length
        · rw [List.getElem?_append_left cc] at hj
          obtain ⟨q1, x', y', q2, q3, q4⟩ := hp j p' hj
          exact ⟨q1, x', y', q2, q3, (upd_ne q1).trans (same1 _ _ q4)⟩
        · have ej : j = i := by
            obtain ⟨z3, _⟩ := List.getElem?_eq_some_iff.mp hj
            rw [List.length_append] at z3
            have z3 : j < ps.length + 1 := z3
            omega
          subst ej
          rw [List.getElem?_append_right (by omega), lp, Nat.sub_self] at hj
          obtain rfl : s.heap.objs.size = p' := Option.some.inj hj
          exact ⟨hSs, x, y, hx, hy, (upd_ne hSs).trans upd_same⟩
      · rw [List.size_toArray]
        omega
      · show (its3.toArray.push _).size ≤ _
        rw [Array.size_push, List.size_toArray]
        omega
    rcases hz with ⟨hz, a, b, hTO⟩ | ⟨T, f, oT, hz, hT, r1, r2, r3, r4⟩
    · refine wpAny_bind (wpAny_pyNext_zip_item D hz hTI hTO h1 h2 p.isList p2.isList (x := u) (y := u2) (by simpa using hu) (by simpa using hu2) fun h' a1 a2 a3 a4 a5 a6 hk => ?_)
      exact put h' a6 hk a5 a3 a4 (.inr ⟨s.heap.objs.size, false, _, a1, a5, mz, m1, m2, hSs⟩)
    · refine wpAny_bind (wpAny_pyNext_zip_item_held D hz hT hTI h1 h2 p.isList p2.isList (x := u) (y := u2) (by simpa using hu) (by simpa using hu2) fun h' a1 a3 a4 a5 a6 hk => ?_)
      exact put h' a6 (fun c o q1 q2 q3 q4 => hk c o q1 q3 q4) a5 a3 a4 (.inr ⟨T, true, oT, a1, hk _ _ r1 r2 r3 hT, r1, r2, r3, r4⟩)
theorem zip_extend (hA : A.handled = none) (D : ZipApart z TI TO i1 i2 l1 l2) (hS : S ∉ [z, TI, TO, i1, i2]) (H0 : Hp) (hl : min xs.length ys.length ≤ sizeLine) (s : Shared) (H : Hp) (I : Inv X pins σ H s) (hf : ∀ b ∈ [z, TI, TO, i1, i2], FpOk X pins H b)
    (st : ZAt l1 l2 z TI TO i1 i2 S 0 s.heap) (hz : IsZip s.heap z TI TO .none) (hq1 : SqL X.K H l1 xs) (hq2 : SqL X.K H l2 ys) (n1 : l1 ≠ S) (n2 : l2 ≠ S) (b0 : But S H0 H) (eS : H S = some (.lst []))
    (hR : ∀ H' s' ps', Inv X pins σ H' s' → But S H0 H' → H' S = some (.lst (ps'.map V.ref)) → ps'.length = min xs.length ys.length → Pairs H' xs ys S ps' → R (.ok (.ret res)) s') :
    wpAny (model X.prog X.w) A.in1 (Builtin.List.listExtendWith (.ref S) (.ref z) res)
      (fun fin s' => match fin with | .done f => R (.ok f) s' | .again c' => c'.quiet = true ∧ codeAny (model X.prog X.w) A c' R s') (fun e s' => R (.error e) s') s := by
  have hT : s.TypeIs (.ref z) "zip" := ⟨_, hz, rfl⟩
  have hSz : S ≠ z := fun e => hS (by simp [e])
  obtain ⟨_, its0, n0, rv0, e0, hS0⟩ := I.lstM eS
  have e0 : its0 = [] := by
    cases its0 with
    | nil => rfl
    | cons a b => simp at e0
  subst e0
  unfold Builtin.List.listExtendWith
  refine wpAny_bind (wpAny_typeOf hT ?_)
  have h1 : Builtin.List.listSameRef (.ref S) (.ref z) = false := by simp [Builtin.List.listSameRef, hSz]
  have h2 : (Value.type "zip" == Value.type "list") = false := by decide
  have h3 : (Value.type "zip" == Value.type "tuple") = false := by decide
  simp only [h1, h2, h3, Bool.or_false, Bool.false_eq_true, if_false]
  refine wpAny_bind (wpAny_pyIter_zip hz ?_)
  refine wpAny_bind (wpAny_holding ?_)
  unfold Builtin.List.listLengthHint
  refine wpAny_bind (wpAny_specialOf hT F.zip_no_len ?_)
  show wpAny _ A.in1 (specialOf (Value.ref z) (Str.ofString "__length_hint__") >>= _) _ _ _
  refine wpAny_bind (wpAny_specialOf hT F.zip_no_hint ?_)
  refine wpAny_pure ?_
  show wpAny _ A.in1 (rule "list.extend.makes-room" >>= fun _ => Builtin.List.listTouch (.ref S) >>= fun _ =>
    again (.builtin "list.extend.loop" ⟨[.ref S, .ref z, res], []⟩)) _ _ _
  refine wpAny_bind (wpAny_rule ?_)
  refine wpAny_bind ?_
  show wpAny _ A.in1 (updateSeq S (·.push .none) >>= fun _ => updateSeq S (·.pop)) _ _ _
  refine wpAny_bind (wpAny_updateSeq hS0 rfl ?_)
  have hS2 := Heap.get?_update_self (Obj.mapSeq (·.push Value.none)) hS0 rfl
  refine wpAny_updateSeq (hz := by seq_fits) hS2 rfl ?_
  have hS3 := Heap.get?_update_self (Obj.mapSeq (·.pop)) hS2 rfl
  have oth : ∀ b o, b ≠ S → s.heap.get? b = some o → ((s.heap.update S (Obj.mapSeq (·.push Value.none))).update S (Obj.mapSeq (·.pop))).get? b = some o :=
    fun b o hb e => (Heap.get?_update_other _ _ (Ne.symm hb)).trans ((Heap.get?_update_other _ _ (Ne.symm hb)).trans e)
  have I3 : Inv X pins σ (upd H S (.lst [])) { s with heap := (s.heap.update S (Obj.mapSeq (·.push Value.none))).update S (Obj.mapSeq (·.pop)), toks := s.toks } :=
    I.write (x := S) (e := S) (by rw [eS]; exact trivial) (.inl rfl) oth ⟨_, hS3⟩ ⟨Nat.zero_le _, [], _, .nil, hS3⟩
  have hcell : ∀ c ∈ [z, TI, TO, i1, i2], c ≠ S := fun c hc e => hS (e ▸ hc)
  obtain ⟨szs, hTI, q1, q2, q3⟩ := st
  refine wpAny_pure ⟨plainId_quiet F.plain_extend_loop _, zip_loop hA D hS H0 hl _ 0 _ _ [] rfl (Nat.zero_le _) I3 (fun c hc' => fp_stat (hf c hc') (by rw [upd_ne (hcell c hc')]; exact (hf c hc').1)) ⟨fun c hc' => ?_, ?_, ?_, ?_, ?_⟩ (But.put.seqL n1 hq1) (But.put.seqL n2 hq2) n1 n2 (b0.trans But.put) upd_same rfl (fun j p hj => by simp at hj) hR⟩
  · rw [Heap.size_update, Heap.size_update]
    exact szs c hc'
  · exact oth _ _ (hcell _ (by simp)) hTI
  · exact q1.at fun o q => oth _ _ (hcell _ (by simp)) q
  · exact q2.at fun o q => oth _ _ (hcell _ (by simp)) q
  · rcases q3 with ⟨hz, a, b, hTO⟩ | ⟨T, f, oT, hz, hT, r1, r2, r3, r4⟩
    · exact .inl ⟨oth _ _ (hcell _ (by simp)) hz, a, b, oth _ _ (hcell _ (by simp)) hTO⟩
    · exact .inr ⟨T, f, oT, oth _ _ (hcell _ (by simp)) hz, oth _ _ r4 hT, r1, r2, r3, r4⟩
theorem call_list_zip {Q : VK} (hc : X.calm = true) (D : ZipApart z TI TO i1 i2 l1 l2) {s : Shared} {H : Hp} (I : Inv X pins σ H s) (hf : ∀ b ∈ [z, TI, TO, i1, i2], FpOk X pins H b)
    (szs : ∀ c ∈ [z, TI, TO, i1, i2], c < s.heap.objs.size) (hz : IsZip s.heap z TI TO .none) (hTI : IsPair s.heap TI (.ref i1) (.ref i2)) (hTO : ∃ a b, IsPair s.heap TO a b) (h1 : s.heap.IsListIter i1 l1 0) (h2 : s.heap.IsListIter i2 l2 0)
    (hq1 : SqL X.K H l1 xs) (hq2 : SqL X.K H l2 ys)
    (hQ : ∀ H' q ps, Same H H' → H q = none → H' q = some (.lst (ps.map V.ref)) → ps.length = min xs.length ys.length → Pairs H' xs ys q ps → Q (.ref q) H') :
    wpAny (model X.prog X.w) X.A (call (.type "list") [.ref z]) (EP X pins σ Q) X.xe s := by
  obtain ⟨its, rv, p1, zz1⟩ := I.list hq1
  obtain ⟨its2, rv2, p2, zz2⟩ := I.list hq2
  have hl : min xs.length ys.length ≤ sizeLine := Nat.le_trans (Nat.min_le_left ..) zz1
  have fr : H s.heap.objs.size = none := I.hok.fresh (Nat.le_refl _)
  have hS : s.heap.objs.size ∉ [z, TI, TO, i1, i2] := fun hm => Nat.lt_irrefl _ (szs _ hm)
  refine callType_codes (Q₁ := fun obj s₁ => obj = .ref s.heap.objs.size ∧ s₁ = { s with heap := s.heap.push { cls := .type "list", data := .seq #[] } }) F.called_list (F.typeCall_list_1 _) F.entry_list_init
    (code_list_new _ ⟨rfl, rfl⟩) fun obj s₁ h₁ => ?_
  obtain ⟨rfl, rfl⟩ := h₁
  have hSS : (s.heap.push { cls := .type "list", data := .seq #[] }).get? s.heap.objs.size = some { cls := .type "list", data := .seq #[] } := Heap.get?_push_size _ rfl
  refine ⟨⟨_, hSS, rfl⟩, F.args_list_init_2 _ _, ?_⟩
  have I1 : Inv X pins σ (upd H s.heap.objs.size (.lst [])) { s with heap := s.heap.push { cls := .type "list", data := .seq #[] }, toks := s.toks } := I.lnew (its := []) (ys := []) .nil (Nat.zero_le _)
  show wpAny _ X.A.in1.in1 (do let old ← Builtin.List.listItems (.ref s.heap.objs.size); Builtin.List.listUpdate (.ref s.heap.objs.size) (fun _ => #[]); letGo old.toList.reverse; Builtin.List.listExtendWith (.ref s.heap.objs.size) (.ref z) .none) _ _ _
  refine wpAny_bind ?_
  unfold Builtin.List.listItems
  refine wpAny_bind (wpAny_seqItems hSS rfl (wpAny_pure ?_))
  show wpAny _ X.A.in1.in1 (updateSeq s.heap.objs.size (fun _ => #[]) >>= fun _ => letGo (#[] : Array Value).toList.reverse >>= fun _ => Builtin.List.listExtendWith (.ref s.heap.objs.size) (.ref z) .none) _ _ _
  refine wpAny_bind (wpAny_updateSeq hSS rfl ?_)
  have hS2 := Heap.get?_update_self (Obj.mapSeq (fun _ => (#[] : Array Value))) hSS rfl
  have oth : ∀ b o, b ≠ s.heap.objs.size → s.heap.get? b = some o → ((s.heap.push { cls := .type "list", data := .seq #[] }).update s.heap.objs.size (Obj.mapSeq (fun _ => (#[] : Array Value)))).get? b = some o :=
    fun b o hb e => (Heap.get?_update_other _ _ (Ne.symm hb)).trans (Heap.get?_push_of_some _ e)
  refine wpAny_bind (wpAny_letGo ?_)
  have I2 : Inv X pins σ (upd (upd H s.heap.objs.size (.lst [])) s.heap.objs.size (.lst [])) { s with heap := (s.heap.push { cls := .type "list", data := .seq #[] }).update s.heap.objs.size (Obj.mapSeq (fun _ => (#[] : Array Value))), toks := s.toks } :=
    I1.write (x := s.heap.objs.size) (e := s.heap.objs.size) (by rw [upd_same]; exact trivial) (.inl rfl) (fun b u hb hu => (Heap.get?_update_other _ _ (Ne.symm hb)).trans hu) ⟨_, hS2⟩ ⟨Nat.zero_le _, [], _, .nil, hS2⟩
  have n1 : l1 ≠ s.heap.objs.size := Nat.ne_of_lt p1.lt
  have n2 : l2 ≠ s.heap.objs.size := Nat.ne_of_lt p2.lt
  have same2 : Same H (upd (upd H s.heap.objs.size (.lst [])) s.heap.objs.size (.lst [])) := fun b o e => by
    have n := ne_of_none e fr
    rw [upd_ne n, upd_ne n]
    exact e
  have ncell : ∀ c ∈ [z, TI, TO, i1, i2], c ≠ s.heap.objs.size := fun c hc e => hS (e ▸ hc)
  refine zip_extend (S := s.heap.objs.size) (A := X.A.in1) (I.ok.hd hc) D hS H hl _ _ I2 (fun c hc' => fp_stat (hf c hc') (by rw [upd_ne (ncell c hc'), upd_ne (ncell c hc')]; exact (hf c hc').1)) ⟨fun c hc' => ?_, ?_, ?_, ?_, .inl ⟨?_, ?_⟩⟩ ?_
    (same_seqL same2 hq1) (same_seqL same2 hq2) n1 n2 (But.of_same same2) upd_same fun H' s' ps I' b' e' lp pr => ⟨rfl, .ref s.heap.objs.size, H', I', rfl, hQ H' s.heap.objs.size ps (fun b o e => b' b o (ne_of_none e fr) e) fr e' lp pr⟩
  · rw [Heap.size_update, Heap.size_push]
    exact Nat.lt_succ_of_lt (szs c hc')
  · exact oth _ _ (ncell _ (by simp)) hTI
  · exact h1.at fun o q => oth _ _ (ncell _ (by simp)) q
  · exact h2.at fun o q => oth _ _ (ncell _ (by simp)) q
  · exact oth _ _ (ncell _ (by simp)) hz
  · obtain ⟨a, b, hTO⟩ := hTO
    exact ⟨a, b, oth _ _ (ncell _ (by simp)) hTO⟩
  · exact oth _ _ (ncell _ (by simp)) hz
def tLstZip (K : PySem.W.Frag) (ta : TA) : TE := fun σ H Q => ta σ H fun vs H1 => ∃ a b xs ys, vs = [.ref a, .ref b] ∧ SqL K H1 a xs ∧ SqL K H1 b ys ∧
  ∀ H' q ps, Same H1 H' → H1 q = none → H' q = some (.lst (ps.map V.ref)) → ps.length = min xs.length ys.length → Pairs H' xs ys q ps → Q (.ref q) H'
theorem pe_listZip (K : PySem.W.Frag) {e e2 : Expr} {ta : TA} {p pos p' pos' : Pos} (hc : X.calm = true) (hg : Gl X "list") (hm : X.mg "list" = none) (hg2 : Gl X "zip") (hm2 : X.mg "zip" = none) (ha : PA X [e, e2] ta)
    (hs : starEach [e, e2] X.env = (false, eval e X.env) :: starEach [e2] X.env := by rfl) (hpl : (backTo pos' (starEach [e2] X.env)).any (·.1) = false := by rfl)
    (na : starEach [.Call (.Name "zip" p') [e, e2] [] pos'] X.env = (false, eval (.Call (.Name "zip" p') [e, e2] [] pos') X.env) :: starEach [] X.env := by rfl) (hK : X.K = K := by rfl) :
    PE X (.Call (.Name "list" p) [.Call (.Name "zip" p') [e, e2] [] pos'] [] pos) (tLstZip K ta) := by
  subst hK
  refine ⟨fun pins s σ H Q I h => ?_⟩
  refine Call_ (ld_blt I hg hm boot_list (PyProof.Rows.callWith_type1 (args_cons ?_ na) na))
  refine Call_ (ld_blt I hg2 hm2 PyProof.Rows.boot_zip (PyProof.Rows.callWith_type1 (thn (ha.run pos' pins s σ H _ I h) fun us s1 ⟨vs, H1, I1, r1, q1⟩ => ?_) hs hpl))
  obtain ⟨a, b, xs, ys, ex, hqx, hqy, q⟩ := q1
  subst ex
  cases r1 with
  | cons r rr =>
    cases rr with
    | cons r' rr =>
      cases rr
      cases r
      cases r'
      obtain ⟨its, rv, p1, _⟩ := I1.list hqx
      obtain ⟨its2, rv2, p2, _⟩ := I1.list hqy
      refine call_zip_2 p1.isList p2.isList fun h' hz hTI hTO h1 h2 hsz hk => args_nil ?_
      have I2 : Inv X pins σ H1 { s1 with heap := h' } := I1.kept (t' := s1.toks) hk
      have cs : ∀ c, c ∈ [s1.heap.objs.size + 4, s1.heap.objs.size + 2, s1.heap.objs.size + 3, s1.heap.objs.size, s1.heap.objs.size + 1] → s1.heap.objs.size ≤ c ∧ c < s1.heap.objs.size + 5 := fun c hcm => by
        have e' : c = s1.heap.objs.size + 4 ∨ c = s1.heap.objs.size + 2 ∨ c = s1.heap.objs.size + 3 ∨ c = s1.heap.objs.size ∨ c = s1.heap.objs.size + 1 := by simpa using hcm
        omega
      exact call_list_zip hc (PySem.W.ktu_apart s1.heap.objs.size a b p1.lt p2.lt) I2 (fun c hcm => I1.fpOk (cs c hcm).1 (I1.hok.fresh (cs c hcm).1)) (fun c hcm => by show c < h'.objs.size; rw [hsz]; exact (cs c hcm).2) hz hTI ⟨_, _, hTO⟩ h1 h2 hqx hqy q
end
end RO

namespace RO
open PySem PySem.Spec PyProof.Rows L2
/-! ### xs[::2], a list of three -/
def tStep2 (K : PySem.W.Frag) (te : TE) : TE := fun σ H Q => te σ H fun v H1 => ∃ a x y z, v = .ref a ∧ SqL K H1 a [x, y, z] ∧ ∀ p, H1 p = none → Q (.ref p) (upd H1 p (.lst [x, z]))
theorem pick3 (u1 u2 u3 : Value) : slicePick [u1, u2, u3].toArray none none (some 2) = [u1, u3].toArray := by
  have b : sliceBounds none none (some 2) [u1, u2, u3].toArray.size = (0, 3, 2) := by rfl
  have r : sliceRange 0 3 2 = [0, 2] := by decide
  unfold slicePick
  rw [b]
  show ((sliceRange 0 3 2).filterMap _).toArray = _
  rw [r]
  rfl
theorem pe_step2 (K : PySem.W.Frag) {X : Cx} {e : Expr} {te : TE} {k : Nat} {p1 p3 pos : Pos} (he : PE X e te) (hK : X.K = K := by rfl) : PE X (.Subscript e (.Slice none none (some (.Constant (.int 2) k p1)) p3) pos) (tStep2 K te) := by
  subst hK
  refine ⟨fun pins s σ H Q I h => ?_⟩
  refine Subscript_ (thn (he.run pins s σ H _ I h) fun v s1 ⟨x0, H1, I1, r1, q1⟩ => ?_)
  obtain ⟨a, x, y, z, ex, hx, q⟩ := q1
  subst ex
  cases r1
  have hst : PO X (some (.Constant (.int 2) k p1)) (tPart (tC (.int 2))) := po_some pe_int
  refine wpAny_Slice (thn (po_none.run pins s1 σ H1 (fun o H2 => o = none ∧ H2 = H1) I1 ⟨rfl, rfl⟩) fun vl s2 ⟨l, H2, I2, pl, el, e2⟩ => ?_)
  subst el e2
  refine thn (po_none.run pins s2 σ H2 (fun o H3 => o = none ∧ H3 = H2) I2 ⟨rfl, rfl⟩) fun vu s3 ⟨u, H3, I3, pu, eu, e3⟩ => ?_
  subst eu e3
  refine thn (hst.run pins s3 σ H3 (fun o H4 => o = some 2 ∧ H4 = H3) I3 ⟨2, rfl, rfl, rfl⟩) fun vs s4 ⟨o, H4, I4, ps, eo, e4⟩ => ?_
  subst eo e4
  have I5 : Inv X pins σ H4 { s4 with heap := s4.heap.push { cls := .type "slice", data := .fields #[vl, vu, vs] } } := I4.kept (t' := s4.toks) fun b ob q => Heap.get?_push_of_some _ q
  obtain ⟨its, r, ht, hz⟩ := I5.list hx
  have hlen := r.length
  obtain ⟨u1, u2, u3, rfl, q1, q2, q3⟩ : ∃ u1 u2 u3, its = [u1, u2, u3] ∧ RelV x u1 ∧ RelV y u2 ∧ RelV z u3 := by
    cases r with
    | cons p q =>
      cases q with
      | cons p' q' =>
        cases q' with
        | cons p'' q'' =>
          cases q''
          exact ⟨_, _, _, rfl, p, p', p''⟩
  show wpAny (model X.prog X.w) X.A (subscriptTail e (.Slice none none (some (.Constant (.int 2) k p1)) p3) (.ref a) (.ref s4.heap.objs.size)) (EP X pins σ Q) X.xe { s4 with heap := s4.heap.push { cls := .type "slice", data := .fields #[vl, vu, vs] } }
  refine tail_any (ops := [.ref a, .ref s4.heap.objs.size]) ht.isList.typeIs (PySem.slot_list_getitem.lookup) ?_ (by with_unfolding_all rfl)
  refine wpAny_getItem_list_slice ht.isList (Heap.IsSliceOf.new _ vl vu vs) pl pu ps (by decide) ?_ (by rw [List.size_toArray]; omega)
  rw [pick3]
  refine ⟨.ref _, _, I5.laid (t' := s4.toks) (o := .lst [x, z]) (fun b ob q => Heap.get?_push_of_some _ q) (Nat.le_refl _) ?_, rfl, q _ (I5.hok.fresh (Nat.le_refl _))⟩
  exact ⟨by show 2 ≤ sizeLine; decide, _, 0, .cons q1 (.cons q3 .nil), Heap.get?_push_size _ rfl⟩
end RO

namespace RO
open PySem PySem.Spec PyProof.Rows L2 PySem.W
/-! ### min, max of a list of numbers, default= -/
theorem reads_ints {h : Heap} : ∀ {vs : List Value} {ns : List Int}, IntsAre vs ns → ReadsAll h vs (ns.map PyData.int) []
  | _, _, .nil => .nil
  | _, _, .cons n t r => .cons (as := []) (bs := []) (.int n t) (reads_ints r)
theorem alike_ints (ns : List Int) : AlikeAll (ns.map PyData.int) := by
  refine ⟨fun x hx y hy => ?_, fun x hx => ?_⟩
  · obtain ⟨a, _, rfl⟩ := List.mem_map.mp hx
    obtain ⟨b, _, rfl⟩ := List.mem_map.mp hy
    rfl
  · obtain ⟨a, _, rfl⟩ := List.mem_map.mp hx
    intro z
    cases z
theorem depth_ints : ∀ ns : List Int, PyData.depthAll (ns.map PyData.int) ≤ 1
  | [] => Nat.zero_le _
  | n :: r => Nat.max_le.mpr ⟨Nat.zero_le _, depth_ints r⟩
theorem min_fold (n : Int) (ns : List Int) : ns.foldl min n ∈ n :: ns ∧ ∀ y ∈ n :: ns, ns.foldl min n ≤ y := by
  induction ns generalizing n with
  | nil => exact ⟨by simp, fun y hy => by simp at hy; rw [hy]; exact Int.le_refl _⟩
  | cons k r ih =>
    obtain ⟨h1, h2⟩ := ih (min n k)
    show r.foldl min (min n k) ∈ _ ∧ _
    refine ⟨?_, fun y hy => ?_⟩
    · rcases List.mem_cons.mp h1 with z | z
      · rw [z]
        by_cases c : n ≤ k
        · rw [Int.min_eq_left c]; simp
        · rw [Int.min_eq_right (by omega)]; simp
      · exact List.mem_cons_of_mem _ (List.mem_cons_of_mem _ z)
    · have m := h2 (min n k) (List.mem_cons_self ..)
      show r.foldl min (min n k) ≤ y
      rcases List.mem_cons.mp hy with rfl | hy
      · omega
      · rcases List.mem_cons.mp hy with rfl | hy
        · omega
        · exact h2 y (List.mem_cons_of_mem _ hy)
theorem max_fold (n : Int) (ns : List Int) : ns.foldl max n ∈ n :: ns ∧ ∀ y ∈ n :: ns, y ≤ ns.foldl max n := by
  induction ns generalizing n with
  | nil => exact ⟨by simp, fun y hy => by simp at hy; rw [hy]; exact Int.le_refl _⟩
  | cons k r ih =>
    obtain ⟨h1, h2⟩ := ih (max n k)
    show r.foldl max (max n k) ∈ _ ∧ _
    refine ⟨?_, fun y hy => ?_⟩
    · rcases List.mem_cons.mp h1 with z | z
      · rw [z]
        by_cases c : n ≤ k
        · rw [Int.max_eq_right c]; simp
        · rw [Int.max_eq_left (by omega)]; simp
      · exact List.mem_cons_of_mem _ (List.mem_cons_of_mem _ z)
    · have m := h2 (max n k) (List.mem_cons_self ..)
      show y ≤ r.foldl max (max n k)
      rcases List.mem_cons.mp hy with rfl | hy
      · omega
      · rcases List.mem_cons.mp hy with rfl | hy
        · omega
        · exact h2 y (List.mem_cons_of_mem _ hy)
def rMinDef (K : PySem.W.Frag) (lt : Int → Int → Prop) : List V → List V → Hp → VK → Prop := fun vs zs H Q => ∃ (a : Addr) (ns : List Int) (d : Int), vs = [V.ref a] ∧ zs = [V.int d] ∧ SqL K H a (ns.map V.int) ∧ ∀ m, (ns = [] ∧ m = d ∨ m ∈ ns ∧ ∀ y ∈ ns, lt m y) → Q (.int m) H
theorem k_minDef (K : PySem.W.Frag) {X : Cx} (hc : X.calm = true) (hu : X.A.units + 64 < cLine) (hK : X.K = K := by rfl) : CallRK X (.builtin "min") [Str.ofString "default"] (rMinDef K fun m y => m ≤ y) := by
  subst hK
  intro pins s σ H vs zs us ws Q I r rz h
  obtain ⟨a, ns, d, rfl, rfl, hs, q⟩ := h
  obtain ⟨its, rv, hl, _⟩ := I.list hs
  rw [Vals.ref1 r]
  obtain ⟨w1, rfl, td, rfl⟩ := vals1 rz
  have dl := depth_ints ns
  refine min_list_default (I.ok.hd hc) hl.isList (reads_ints rv.ints) (alike_ints ns) (by omega) (fun e h' tk hk => ?_) fun y ys i v h' tk bs e hv rd hk => ?_
  · exact ⟨.int d, H, I.kept hk, ⟨_, rfl⟩, q d (.inl ⟨(by cases ns with | nil => rfl | cons a b => cases e), rfl⟩)⟩
  · cases ns with
    | nil => cases e
    | cons n r =>
      cases e
      rw [minD_ints] at rd
      obtain ⟨m1, m2⟩ := min_fold n r
      generalize r.foldl min n = m at *
      cases rd
      exact ⟨.int m, H, I.kept hk, ⟨_, rfl⟩, q m (.inr ⟨m1, m2⟩)⟩
theorem k_maxDef (K : PySem.W.Frag) {X : Cx} (hc : X.calm = true) (hu : X.A.units + 64 < cLine) (hK : X.K = K := by rfl) : CallRK X (.builtin "max") [Str.ofString "default"] (rMinDef K fun m y => y ≤ m) := by
  subst hK
  intro pins s σ H vs zs us ws Q I r rz h
  obtain ⟨a, ns, d, rfl, rfl, hs, q⟩ := h
  obtain ⟨its, rv, hl, _⟩ := I.list hs
  rw [Vals.ref1 r]
  obtain ⟨w1, rfl, td, rfl⟩ := vals1 rz
  have dl := depth_ints ns
  refine max_list_default (I.ok.hd hc) hl.isList (reads_ints rv.ints) (alike_ints ns) (by omega) (fun e h' tk hk => ?_) fun y ys i v h' tk bs e hv rd hk => ?_
  · exact ⟨.int d, H, I.kept hk, ⟨_, rfl⟩, q d (.inl ⟨(by cases ns with | nil => rfl | cons a b => cases e), rfl⟩)⟩
  · cases ns with
    | nil => cases e
    | cons n r =>
      cases e
      rw [maxD_ints] at rd
      obtain ⟨m1, m2⟩ := max_fold n r
      generalize r.foldl max n = m at *
      cases rd
      exact ⟨.int m, H, I.kept hk, ⟨_, rfl⟩, q m (.inr ⟨m1, m2⟩)⟩
end RO

namespace RO
open PySem PySem.Spec PyProof.Rows L2

/-! ### len of a set of numbers -/
def rLenSet (ww : World) : List V → Hp → VK → Prop := fun vs H Q => ∃ (p : Addr) (S : Int → Bool) (n : Nat) (ns : List Int), vs = [V.ref p] ∧ H p = some (SetO ww p S n) ∧ ns.Nodup ∧ (∀ k, S k = true ↔ k ∈ ns) ∧ Q (.int ns.length) H
theorem k_lenSet (ww : World) {X : Cx} (h2 : X.w = ww := by rfl) : CallR X (.builtin "len") (rLenSet ww) := by
  subst h2
  intro pins s σ H vs us Q I r h
  obtain ⟨p, S, n, ns, rfl, ha, nd, mem, q⟩ := h
  rw [Vals.ref1 r]
  obtain ⟨o, es, ep, t, ho, hx, hd, g, nk, hm, hb, hf, hn, _⟩ := setO_get I ha
  have pm : (es.toList.map keyOf).Perm ns := (List.perm_ext_iff_of_nodup nk nd).mpr fun k => (hm k).symm.trans (mem k)
  have le : es.size = ns.length := by
    rw [← pm.length_eq, List.length_map, Array.length_toList]
  have sb : scanBound ≤ 2 ^ 62 := by decide
  refine PySem.call_len_set ho hx hd hf (by omega) ⟨.int ns.length, H, I.tok _, ⟨_, by rw [le]⟩, q⟩
end RO

namespace RO
open PySem PySem.Spec PyProof.Rows L2

/-! ### a text taken once, or not at all -/
theorem op_str1 {X : Cx} : OpR X (binaryOp .Mult) (fun x y H Q => ∃ z n, x = .str z ∧ y = .int n ∧ -1000 ≤ n ∧ n ≤ 1 ∧ z.length ≤ sizeLine ∧ Q (.str (if n < 1 then Str.empty else z)) H) := by
  intro pins s σ H x y v u Q I rx ry h
  obtain ⟨z, n, rfl, rfl, h1, h2, hz, q⟩ := h
  obtain ⟨t, rfl⟩ := rx
  obtain ⟨t', rfl⟩ := ry
  have one : ¬ n < 1 → (n == 1 || z.length == 0) = true := fun g => by
    have : n = 1 := by omega
    subst this
    rfl
  refine PySem.P.mul_str ?_ (fun g e => ?_) (fun g e => ?_) ?_
  · rw [decide_eq_false (by omega), decide_eq_false (by omega)]
    rfl
  · rw [one g] at e
    cases e
  · rw [one g] at e
    cases e
  · by_cases c : n < 1
    · rw [if_pos c] at q ⊢
      exact ⟨by decide, .str Str.empty, H, I.tok _, ⟨_, rfl⟩, q⟩
    · rw [if_neg c] at q ⊢
      rw [if_pos (one c)]
      exact ⟨.str z, H, I, ⟨_, rfl⟩, q⟩

/-! ### a number's figures, two at least -/
def pad2 (i : Int) : Str := if i < 10 then Str.ofString "0" ++ Str.ofString (toString i) else Str.ofString (toString i)
theorem figs {i : Int} (h : 0 ≤ i) : Str.ofString (toString i) = ⟨((Nat.toDigits 10 i.toNat).map Char.toNat).toArray⟩ := by
  obtain ⟨m, rfl⟩ := Int.eq_ofNat_of_zero_le h
  exact text_ofNat m
theorem figs_len {i : Int} (h : 0 ≤ i) : (Str.ofString (toString i)).length = (Nat.toDigits 10 i.toNat).length := by
  rw [figs h]
  show (((Nat.toDigits 10 i.toNat).map Char.toNat).toArray).size = _
  simp
theorem figs_fits {i : Int} (h0 : 0 ≤ i) (h1 : i < 1000000) : (Str.ofString (toString i)).length ≤ 6 := by
  rw [figs_len h0]
  exact digits10_le (by decide) (by omega)
theorem len_app (a b : Str) : (a ++ b).length = a.length + b.length := strLen_append a b
theorem pad2_fits {i : Int} (h0 : 0 ≤ i) (h1 : i < 1000000) : (pad2 i).length ≤ 7 := by
  have l := figs_fits h0 h1
  unfold pad2
  split
  · rw [len_app]
    have : (Str.ofString "0").length = 1 := by decide +kernel
    omega
  · omega
def f02 : Builtin.Float.FormatSpec := { fill := 48, align := 61, width := some 2, type := some 100 }
theorem parse02 : Builtin.Float.parseFormatSpec (⟨#[48, 50, 100]⟩ : Str).cps.toList "int" 62 = .ok f02 := by kernel_rfl
theorem lg_small {i : Int} (h : i.natAbs < 1048576) : i.natAbs.log2 < 1920 := by
  by_cases z : i.natAbs = 0
  · rw [z]
    decide +kernel
  · exact (Nat.log2_lt z).mpr (Nat.lt_of_lt_of_le (show i.natAbs < 2 ^ 20 by omega) (Nat.pow_le_pow_right (by decide) (show 20 ≤ 1920 by decide)))
theorem meets02 {a : Int} {t : Tok} (h0 : 0 ≤ a) (h1 : a < 1000000) : ∀ u, Meets (Builtin.«int.__format__» ⟨[.int a t, .str ⟨#[48, 50, 100]⟩ u], []⟩) (fun _ R s => ∀ t' k, R (.ok (.ret (.str (pad2 a) t'))) { s with toks := k }) := by
  intro _
  apply PySem.W.KPc.meets_of
  intro _ _ _ _ _ _ _
  unfold Builtin.«int.__format__»
  refine wpAny_bind (wpAny_of_eq (a := (_, _)) rfl ?_)
  refine wpAny_bind (wpAny_of_eq (a := _) rfl ?_)
  kxf_if
  refine wpAny_bind (wpAny_typeNameOf (T := "str") (typeIs_str _ _ _) (by decide) fun _ => ?_)
  refine wpAny_bind (wpAny_of_eq (a := some _) rfl ?_)
  kxf_if
  kxf_if
  refine wpAny_bind (wpAny_typeNameOfCut_int ?_)
  rw [parse02]
  kxf_if
  (repeat kxf_if)
  have small : a.natAbs.log2 < 1920 := by
    by_cases z : a.natAbs = 0
    · rw [z]
      decide +kernel
    · exact (Nat.log2_lt z).mpr (Nat.lt_of_lt_of_le (show a.natAbs < 2 ^ 20 by omega) (Nat.pow_le_pow_right (by decide) (show 20 ≤ 1920 by decide)))
  refine wpAny_bind (wpAny_of_eq (PySem.overDigitLimit_small small) ?_)
  (repeat kxf_if)
  refine (fun e => PySem.W.KXf.ret_text (T := pad2 a) e (by rw [e]; exact Nat.le_trans (pad2_fits h0 h1) (by decide)) ?_) ?_
  · assumption
  · refine Eq.trans (b := intSpecText f02 a) (by with_unfolding_all rfl) ?_
    rw [intSpecText_zero rfl rfl rfl rfl h0]
    show (⟨(List.replicate (2 - (Nat.toDigits 10 a.natAbs).length) 48).toArray⟩ : Str) ++ Str.ofString (toString a) = pad2 a
    have D := digitsFacts10 a.natAbs
    have l1 := D.ge1
    unfold pad2
    by_cases c : a < 10
    · rw [if_pos c, D.lt10 (by omega)]
      rfl
    · have l2 := D.ge10 (by omega)
      rw [if_neg c, show 2 - (Nat.toDigits 10 a.natAbs).length = 0 by omega]
      exact Str.empty_append _
section
variable {X : Cx}
/-- {x:02d} -/
def tFmt02 (te : TE) : TE := fun σ H Q => te σ H fun x H1 => ∃ i : Int, x = .int i ∧ 0 ≤ i ∧ i < 1000000 ∧ Q (.str (pad2 i)) H1
theorem pe_fmt02 {e sp : Expr} {te : TE} {pos : Pos} (he : PE X e te) (hs : PE X sp (tC (.str (Str.ofString "02d")))) : PE X (.FormattedValue e (-1) (some sp) pos) (tFmt02 te) := by
  refine ⟨fun pins s σ H Q I h => ?_⟩
  refine wpAny_FormattedValue_spec (thn (he.run pins s σ H _ I h) fun v s1 hv => ?_)
  obtain ⟨x, H1, I1, r1, i, rfl, i0, i1, q⟩ := hv
  obtain ⟨t, rfl⟩ := r1
  refine thn (hs.run pins s1 σ H1 (fun x H2 => x = .str (Str.ofString "02d") ∧ H2 = H1) I1 ⟨rfl, rfl⟩) fun r s2 hr => ?_
  obtain ⟨x2, H2, I2, r2, rfl, rfl⟩ := hr
  obtain ⟨t2, rfl⟩ := r2
  exact ⟨_, t2, rfl, PySem.W.KXf.field_int (spec' := ⟨#[48, 50, 100]⟩) (by decide +kernel) rfl (by decide) (meets02 i0 i1) fun t' k => ⟨.str (pad2 i), _, I2.tok k, ⟨_, rfl⟩, q⟩⟩
/-- the parts of an f-string, named -/
def tJd (ts : List TE) : TE := fun σ H Q => tJs ts Str.empty σ H fun out H1 => Q (.str out) H1
theorem pe_joinedN {v1 v2 : Expr} {rest : List Expr} {ts : List TE} {pos : Pos} (h : PJ X (v1 :: v2 :: rest) ts) : PE X (.JoinedStr (v1 :: v2 :: rest) pos) (tJd ts) := pe_joined h
end
end RO

namespace RO
open PySem PySem.Spec PyProof.Rows L2

/-! ### d.get(k), k a number, a text or None -/
theorem leaf_of {prog : Program} {w : World} {h : Heap} {a : Addr} {vs : List (Key × Value)} (dd : h.DictOf (mixKind prog w) a vs) : ∃ f : Leaf → Option Value, h.MapOf (leafKind prog w) a f ∧ f .none = none := by
  obtain ⟨o, es, ep, h1, h2, h3, h4, h5, h6⟩ := dd
  refine ⟨fun k => findBy (leafKind prog w).is es k, ⟨o, es, ep, h1, h2, h3, fun e he => ?_, fun _ => rfl⟩, ?_⟩
  · obtain ⟨k, k1, k2⟩ := h4 e he
    rcases keyIs_shape k1 with ⟨i, t, rfl, z⟩ | ⟨x, t, rfl, z⟩
    · refine ⟨.num i, by rw [z]; exact decide_eq_true rfl, k2⟩
    · refine ⟨.text x, by rw [z] at k1 ⊢; exact k1, k2⟩
  · show (es.find? fun e => (leafKind prog w).is Leaf.none e.key).map _ = none
    rw [Array.find?_eq_none.mpr fun e he => ?_]
    · rfl
    · obtain ⟨k, k1, _⟩ := h4 e he
      rcases keyIs_shape k1 with ⟨i, t, rfl, z⟩ | ⟨x, t, rfl, z⟩
      · rw [z]
        exact Bool.false_ne_true
      · rw [z]
        exact Bool.false_ne_true
section
variable {X : Cx} {o e : Expr} {apos cpos : Pos} {td ty : TE}
/-- what a dict tells for a key, or for None -/
def tDGetN (td ty : TE) : TE := fun σ H Q => td σ H fun x H1 => ∃ a, x = .ref a ∧ IsD H1 a ∧ ty σ H1 fun y H2 => ∃ kvs, H2 a = some (.dK kvs) ∧ ((∃ k, y = kV k ∧ Q ((valV kvs k).getD .non) H2) ∨ y = .non ∧ Q .non H2)
theorem pe_dgetN (hu : X.A.units + 1 < cLine) (ho : PE X o td) (he : PE X e ty) (m : M1 X o "get" apos e cpos) : PE X (.Call (.Attribute o "get" apos) [e] [] cpos) (tDGetN td ty) := by
  refine ⟨fun pins s σ H Q I h => ?_⟩
  refine wpAny_Call_method m.base m.few m.line PySem.F.plainAttrs_dict PySem.F.slot_dict_get PySem.F.type_dict_get (thn (ho.run pins s σ H _ I h) fun u s1 ⟨x, H1, I1, rx, a, ex, d, q1⟩ => ?_)
  subst ex
  obtain rfl : u = Value.ref a := rx
  obtain ⟨t1, t2, _⟩ := isD_at I1 d
  refine ⟨t1, t2, ?_⟩
  rw [m.trees]
  refine Calls.callWith_builtin rfl (Calls.evalArgs_plain (Calls.spliced_cons (thn (he.run pins s1 σ H1 _ I1 q1) fun iv s2 ⟨y, H2, I2, ry, kvs, e2, q2⟩ => Calls.spliced_nil ?_)))
  rcases q2 with ⟨k, rfl, q2⟩ | ⟨rfl, q2⟩
  · exact d_get1 hu I2 (DGet.k e2) ry fun w' s3 I3 rw' => ⟨_, H2, I3, rw', q2⟩
  · obtain rfl : iv = Value.none := ry
    obtain ⟨z, hd, vs, rel, dd⟩ := dk_of I2.hok e2
    obtain ⟨f, fm, fn⟩ := leaf_of dd
    refine call_meetsIn PySem.F.slot_dict_get dd.typeIs PySem.F.entry_dict_get (PySem.F.args_dict_get_2 _ _) (meets_dict_get (leafKind X.prog X.w) (k := Leaf.none) a rfl hd) ⟨f, fm, .non, H2, I2.tok _, ?_, q2⟩
    rw [fn]
    rfl
end
/-! ### dict(xs) of pairs -/
theorem k_dictP (K : PySem.W.Frag) {X : Cx} (hc : X.calm = true) (h : X.K = K := by rfl) : CallR X (.type "dict") (fun xs H Q => ∃ (a : Addr) (ps : List Addr) (kvs : List (Key × V)), xs = [.ref a] ∧ SqL K H a (ps.map V.ref) ∧ Paired (fun p kv => SqT K H p [kV kv.1, kv.2]) ps kvs ∧
    ∀ p, H p = none → Q (.ref p) (upd H p (.dK (mergeK [] kvs)))) := by
  subst h
  exact call_dictP hc
end RO

namespace RO
open PySem PySem.Spec PyProof.Rows L2

/-! ### a tuple taken so often -/
theorem k_repT (K : PySem.W.Frag) {X : Cx} (h : X.K = K := by rfl) : OpR X (binaryOp .Mult) (rRepT K) := by
  subst h
  exact op_repT

/-! ### cards -/
inductive CardsOf (R : Addr → Str → PyData → Nat → Prop) : List Addr → List Str → List PyData → Nat → Prop
  | nil : CardsOf R [] [] [] 0
  | cons {b : Addr} {t : Str} {x : PyData} {c : Nat} {bs : List Addr} {ts : List Str} {xs : List PyData} {cs : Nat} : R b t x c → CardsOf R bs ts xs cs → CardsOf R (b :: bs) (t :: ts) (x :: xs) (c + cs)
section
variable {R S : Addr → Str → PyData → Nat → Prop} {bs : List Addr} {ts : List Str} {xs : List PyData} {cs : Nat}
theorem CardsOf.snoc {b : Addr} {t : Str} {x : PyData} {c : Nat} (h : CardsOf R bs ts xs cs) (h2 : R b t x c) : CardsOf R (bs ++ [b]) (ts ++ [t]) (xs ++ [x]) (cs + c) := by
  induction h with
  | nil =>
    rw [Nat.add_comm]
    exact .cons h2 .nil
  | cons a _ ih =>
    rw [Nat.add_assoc]
    exact .cons a ih
theorem CardsOf.imp (h : CardsOf R bs ts xs cs) (f : ∀ b t x c, R b t x c → S b t x c) : CardsOf S bs ts xs cs := by
  induction h with
  | nil => exact .nil
  | cons a _ ih => exact .cons (f _ _ _ _ a) ih
theorem CardsOf.len (h : CardsOf R bs ts xs cs) : ts.length = bs.length ∧ xs.length = bs.length := by
  induction h with
  | nil => exact ⟨rfl, rfl⟩
  | cons _ _ ih => exact ⟨congrArg (· + 1) ih.1, congrArg (· + 1) ih.2⟩
theorem CardsOf.at_ (h : CardsOf R bs ts xs cs) : ∀ {i : Nat} {b : Addr}, bs[i]? = some b → ∃ t x c, ts[i]? = some t ∧ R b t x c ∧ c ≤ cs := by
  induction h with
  | nil => intro i b e; simp at e
  | @cons b t x c bs ts xs cs a _ ih =>
    intro i b e
    cases i with
    | zero =>
      obtain rfl := Option.some.inj e
      exact ⟨t, x, c, rfl, a, by omega⟩
    | succ i =>
      obtain ⟨t', x', c', h1, h2, h3⟩ := ih e
      exact ⟨t', x', c', h1, h2, by omega⟩
end
def engs : List Str := ["port", "star"]
def cardRow (ts : List Str) : Str := Str.ofString "(" ++ Txt.join (Str.ofString "; ") ts ++ Str.ofString ")"
def orderTs : List Str := ["-full", "-half", "-slow", "-dead", "stop", "+dead", "+slow", "+half", "+full"]
def orderT (o : Int) : Str := orderTs.getD (o + 4).toNat Str.empty
/-- a card at most so deep stands at a, its text, its data, how many cards there are -/
def CardAt (K : PySem.W.Frag) (H : Hp) : Nat → Addr → Str → PyData → Nat → Prop
  | 0 => fun _ _ _ _ => False
  | d + 1 => fun a t x c =>
    (∃ (e : Str) (o : Int), SqT K H a [.str "ring", .str e, .int o] ∧ e ∈ engs ∧ -4 ≤ o ∧ o ≤ 4 ∧ t = e ++ Str.ofString " " ++ orderT o ∧ x = .tuple [.str "ring", .str e, .int o] ∧ c = 1)
    ∨ (∃ n : Int, SqT K H a [.str "wait", .int n] ∧ 1 ≤ n ∧ n ≤ 999 ∧ t = Str.ofString "wait " ++ Str.ofString (toString n) ∧ x = .tuple [.str "wait", .int n] ∧ c = 1)
    ∨ (∃ (n : Int) (b : Addr) (t' : Str) (x' : PyData) (c' : Nat), SqT K H a [.str "again", .int n, .ref b] ∧ 0 ≤ n ∧ n ≤ 1000000000 ∧ CardAt K H d b t' x' c' ∧ t = Str.ofString (toString n) ++ Str.ofString "*" ++ t' ∧ x = .tuple [.str "again", .int n, x'] ∧ c = c' + 1)
    ∨ (∃ (q : Addr) (bs : List Addr) (ts : List Str) (xs : List PyData) (c' : Nat), SqT K H a [.str "row", .ref q] ∧ SqT K H q (bs.map V.ref) ∧ bs.length ≤ 6 ∧ CardsOf (CardAt K H d) bs ts xs c' ∧ t = cardRow ts ∧ x = .tuple [.str "row", .tuple xs] ∧ c = c' + 1)
section
variable {K : PySem.W.Frag} {H H1 : Hp}
theorem card_imp (f : ∀ a xs, SqT K H a xs → SqT K H1 a xs) : ∀ (d : Nat) (a : Addr) (t : Str) (x : PyData) (c : Nat), CardAt K H d a t x c → CardAt K H1 d a t x c
  | 0, _, _, _, _, h => False.elim h
  | d + 1, a, t, x, c, h => by
    rcases h with ⟨e, o, h1, h2⟩ | ⟨n, h1, h2⟩ | ⟨n, b, t', x', c', h1, h2, h3, h4, h5⟩ | ⟨q, bs, ts, xs, c', h1, h2, h3, h4, h5⟩
    · exact .inl ⟨e, o, f _ _ h1, h2⟩
    · exact .inr (.inl ⟨n, f _ _ h1, h2⟩)
    · exact .inr (.inr (.inl ⟨n, b, t', x', c', f _ _ h1, h2, h3, card_imp f d _ _ _ _ h4, h5⟩))
    · exact .inr (.inr (.inr ⟨q, bs, ts, xs, c', f _ _ h1, f _ _ h2, h3, h4.imp (card_imp f d), h5⟩))
theorem card_same (s : Same H H1) {d : Nat} {a : Addr} {t : Str} {x : PyData} {c : Nat} (h : CardAt K H d a t x c) : CardAt K H1 d a t x c := card_imp (fun _ _ q => same_seqT s q) d a t x c h
theorem card_up : ∀ (d : Nat) (a : Addr) (t : Str) (x : PyData) (c : Nat), CardAt K H d a t x c → CardAt K H (d + 1) a t x c
  | 0, _, _, _, _, h => h.elim
  | d + 1, a, t, x, c, h => by
    rcases h with ⟨e, o, h1, h2⟩ | ⟨n, h1, h2⟩ | ⟨n, b, t', x', c', h1, h2, h3, h4, h5⟩ | ⟨q, bs, ts, xs, c', h1, h2, h3, h4, h5⟩
    · exact .inl ⟨e, o, h1, h2⟩
    · exact .inr (.inl ⟨n, h1, h2⟩)
    · exact .inr (.inr (.inl ⟨n, b, t', x', c', h1, h2, h3, card_up d _ _ _ _ h4, h5⟩))
    · exact .inr (.inr (.inr ⟨q, bs, ts, xs, c', h1, h2, h3, h4.imp (card_up d), h5⟩))
theorem card_deeper {d e : Nat} (h : d ≤ e) {a : Addr} {t : Str} {x : PyData} {c : Nat} (q : CardAt K H d a t x c) : CardAt K H e a t x c := by
  induction e with
  | zero =>
    obtain rfl : d = 0 := by omega
    exact q
  | succ e ih =>
    by_cases z : d = e + 1
    · exact z ▸ q
    · exact card_up _ _ _ _ _ (ih (by omega))
theorem card_pos : ∀ {d : Nat} {a : Addr} {t : Str} {x : PyData} {c : Nat}, CardAt K H d a t x c → 1 ≤ c
  | 0, _, _, _, _, h => h.elim
  | d + 1, a, t, x, c, h => by
    rcases h with ⟨e, o, h1, h2, h3, h4, h5, h6, h7⟩ | ⟨n, h1, h2, h3, h4, h5, h6⟩ | ⟨n, b, t', x', c', h1, h2, h3, h4, h5, h6, h7⟩ | ⟨q, bs, ts, xs, c', h1, h2, h3, h4, h5, h6, h7⟩ <;> omega
theorem orderT_fits (o : Int) : (orderT o).length ≤ 5 := by
  unfold orderT
  rcases z : orderTs[(o + 4).toNat]? with _ | t
  · rw [List.getD_eq_getElem?_getD, z]
    decide +kernel
  · rw [List.getD_eq_getElem?_getD, z]
    have := List.mem_of_getElem? z
    exact (show ∀ t ∈ orderTs, t.length ≤ 5 by decide +kernel) t this
theorem engine_fits {e : Str} (h : e ∈ engs) : TOk 4 e := by
  have he2 : e = "port" ∨ e = "star" := by simpa [engs] using h
  rcases he2 with rfl | rfl <;> exact ⟨by decide +kernel, by decide +kernel⟩
theorem figs_fits9 {i : Int} (h0 : 0 ≤ i) (h1 : i ≤ 1000000000) : (Str.ofString (toString i)).length ≤ 10 := by
  rw [figs_len h0]
  exact digits10_le (by decide) (by omega)
theorem join_len (sep : Str) : ∀ ts : List Str, (Txt.join sep ts).length ≤ (ts.map (·.length)).sum + ts.length * sep.length := fun ts => by
  rw [TL.join_eq]
  induction ts with
  | nil => exact Nat.zero_le _
  | cons t ts ih =>
    cases ts with
    | nil =>
      show t.length ≤ _
      simp
    | cons u us =>
      show (t ++ sep ++ Str.join sep (u :: us)).length ≤ _
      rw [len_app, len_app]
      simp only [List.map_cons, List.sum_cons, List.length_cons] at ih ⊢
      have : (us.length + 1 + 1) * sep.length = (us.length + 1) * sep.length + sep.length := Nat.succ_mul _ _
      omega
theorem cards_len {R : Addr → Str → PyData → Nat → Prop} (f : ∀ b t x c, R b t x c → t.length ≤ 20 * c) {bs : List Addr} {ts : List Str} {xs : List PyData} {cs : Nat} (h : CardsOf R bs ts xs cs) : (ts.map (·.length)).sum ≤ 20 * cs := by
  induction h with
  | nil => exact Nat.le_refl _
  | cons a _ ih =>
    have := f _ _ _ _ a
    rw [List.map_cons, List.sum_cons]
    omega
theorem card_len : ∀ (d : Nat) (a : Addr) (t : Str) (x : PyData) (c : Nat), CardAt K H d a t x c → t.length ≤ 20 * c
  | 0, _, _, _, _, h => h.elim
  | d + 1, a, t, x, c, h => by
    have b1 : (Str.ofString " ").length = 1 := by decide +kernel
    have b2 : (Str.ofString "wait ").length = 5 := by decide +kernel
    have b3 : (Str.ofString "*").length = 1 := by decide +kernel
    have b4 : (Str.ofString "(").length = 1 := by decide +kernel
    have b5 : (Str.ofString ")").length = 1 := by decide +kernel
    have b6 : (Str.ofString "; ").length = 2 := by decide +kernel
    rcases h with ⟨e, o, h1, h2, h3, h4, h5, h6, h7⟩ | ⟨n, h1, h2, h3, h4, h5, h6⟩ | ⟨n, b, t', x', c', h1, h2, h3, h4, h5, h6, h7⟩ | ⟨q, bs, ts, xs, c', h1, h2, h3, h4, h5, h6, h7⟩
    · have := (engine_fits h2).1
      have := orderT_fits o
      rw [h5, len_app, len_app]
      omega
    · have := figs_fits9 (i := n) (by omega) (by omega)
      rw [h4, len_app]
      omega
    · have := figs_fits9 (i := n) (by omega) (by omega)
      have := card_len d _ _ _ _ h4
      rw [h5, len_app, len_app]
      omega
    · have z := cards_len (card_len d) h4
      have y := join_len (Str.ofString "; ") ts
      have := h4.len.1
      rw [b6] at y
      rw [h5]
      unfold cardRow
      rw [len_app, len_app]
      omega
theorem RepOk.tupleS {ds : List PyData} {k n : Nat} (h1 : PyData.showableAll ds = true) (h2 : PyData.hasDictAll ds = false) (h3 : PyData.depthAll ds ≤ k) (h4 : PyData.leavesShortAll 400 ds = true) (h6 : PyData.canLayAll0 ds = true) (h5 : PyData.bulkAll ds ≤ n) : RepOk (.tuple ds) (k + 1) n :=
  ⟨by simpa only [PyData.showable] using h1, by simpa only [PyData.hasDict] using h2, by simp only [PyData.depth]; omega, by simpa only [PyData.leavesShort] using h4, by simpa only [PyData.canLay0] using h6, by simpa only [PyData.bulk] using h5⟩
theorem RepOk.pair {a b : PyData} {k m n : Nat} (ha : RepOk a k m) (hb : RepOk b k n) : RepOk (.tuple [a, b]) (k + 1) (m + n + 2) := by
  refine RepOk.tupleS ?_ ?_ ?_ ?_ ?_ ?_
  · simp only [PyData.showableAll, ha.sh, hb.sh, Bool.and_self]
  · simp only [PyData.hasDictAll, ha.nd, hb.nd, Bool.or_self]
  · have := ha.dp
    have := hb.dp
    simp only [PyData.depthAll]
    omega
  · simp only [PyData.leavesShortAll, ha.lv, hb.lv, Bool.and_self]
  · simp only [PyData.canLayAll0, ha.cl, hb.cl, Bool.and_self]
  · have := ha.bk
    have := hb.bk
    simp only [PyData.bulkAll]
    omega
theorem RepOk.three {a b c : PyData} {k m n l : Nat} (ha : RepOk a k m) (hb : RepOk b k n) (hc : RepOk c k l) : RepOk (.tuple [a, b, c]) (k + 1) (m + n + l + 3) := by
  refine RepOk.tupleS ?_ ?_ ?_ ?_ ?_ ?_
  · simp only [PyData.showableAll, ha.sh, hb.sh, hc.sh, Bool.and_self]
  · simp only [PyData.hasDictAll, ha.nd, hb.nd, hc.nd, Bool.or_self]
  · have := ha.dp
    have := hb.dp
    have := hc.dp
    simp only [PyData.depthAll]
    omega
  · simp only [PyData.leavesShortAll, ha.lv, hb.lv, hc.lv, Bool.and_self]
  · simp only [PyData.canLayAll0, ha.cl, hb.cl, hc.cl, Bool.and_self]
  · have := ha.bk
    have := hb.bk
    have := hc.bk
    simp only [PyData.bulkAll]
    omega
theorem cards_rep {R : Addr → Str → PyData → Nat → Prop} {k : Nat} (f : ∀ b t x c, R b t x c → Dp K H (.ref b) x ∧ RepOk x k (28 * c)) {bs : List Addr} {ts : List Str} {xs : List PyData} {cs : Nat} (h : CardsOf R bs ts xs cs) :
    DpAll K H (bs.map V.ref) xs ∧ PyData.showableAll xs = true ∧ PyData.hasDictAll xs = false ∧ PyData.depthAll xs ≤ k ∧ PyData.leavesShortAll 400 xs = true ∧ PyData.canLayAll0 xs = true ∧ PyData.bulkAll xs ≤ 28 * cs + bs.length := by
  induction h with
  | nil => exact ⟨.nil, rfl, rfl, Nat.zero_le _, rfl, rfl, Nat.zero_le _⟩
  | cons a _ ih =>
    obtain ⟨i0, h1, h2, h3, h4, h6, h5⟩ := ih
    obtain ⟨d0, q⟩ := f _ _ _ _ a
    refine ⟨.cons d0 i0, ?_, ?_, ?_, ?_, ?_, ?_⟩
    · simp only [PyData.showableAll, q.sh, h1, Bool.and_self]
    · simp only [PyData.hasDictAll, q.nd, h2, Bool.or_self]
    · simp only [PyData.depthAll]
      exact Nat.max_le.mpr ⟨q.dp, h3⟩
    · simp only [PyData.leavesShortAll, q.lv, h4, Bool.and_self]
    · simp only [PyData.canLayAll0, q.cl, h6, Bool.and_self]
    · simp only [PyData.bulkAll, List.length_cons]
      have b := q.bk
      omega
theorem card_rep : ∀ (d : Nat) (a : Addr) (t : Str) (x : PyData) (c : Nat), CardAt K H d a t x c → Dp K H (.ref a) x ∧ RepOk x (2 * d) (28 * c)
  | 0, _, _, _, _, h => h.elim
  | d + 1, a, t, x, c, h => by
    have wd : ∀ s ∈ (["ring", "wait", "again", "row"] : List Str), TOk 5 s := by
      unfold TOk
      decide +kernel
    rcases h with ⟨e, o, h1, h2, h3, h4, h5, h6, h7⟩ | ⟨n, h1, h2, h3, h4, h5, h6⟩ | ⟨n, b, t', x', c', h1, h2, h3, h4, h5, h6, h7⟩ | ⟨q, bs, ts, xs, c', h1, h2, h3, h4, h5, h6, h7⟩
    · subst h6 h7
      exact ⟨.tup h1 (.cons (.str _) (.cons (.str _) (.cons (.int _) .nil))), ((RepOk.three (RepOk.tok (wd "ring" (by simp))) (RepOk.tok (engine_fits h2)) (RepOk.int (by omega))).mono (by omega) (by omega))⟩
    · subst h5 h6
      exact ⟨.tup h1 (.cons (.str _) (.cons (.int _) .nil)), ((RepOk.pair (RepOk.tok (wd "wait" (by simp))) (RepOk.int (by omega))).mono (by omega) (by omega))⟩
    · subst h6 h7
      obtain ⟨d0, r0⟩ := card_rep d _ _ _ _ h4
      exact ⟨.tup h1 (.cons (.str _) (.cons (.int _) (.cons d0 .nil))), ((RepOk.three ((RepOk.tok (wd "again" (by simp))).mono (Nat.zero_le _) (Nat.le_refl _)) ((RepOk.int (i := n) (by omega)).mono (Nat.zero_le _) (Nat.le_refl _)) r0).mono (by omega) (by omega))⟩
    · subst h6 h7
      obtain ⟨d0, e1, e2, e3, e4, e6, e5⟩ := cards_rep (card_rep d) h4
      exact ⟨.tup h1 (.cons (.str _) (.cons (.tup h2 d0) .nil)), ((RepOk.pair ((RepOk.tok (wd "row" (by simp))).mono (Nat.zero_le _) (Nat.le_refl _)) (RepOk.tupleS e1 e2 e3 e4 e6 e5)).mono (by omega) (by omega))⟩
end
end RO

namespace RO
open PySem PySem.Spec PyProof.Rows L2

/-! ### data with dicts of at most one pair in it, and no list -/
def keyD : Key → PyData
  | .inl i => .int i
  | .inr t => .str t
mutual
inductive Td (K : PySem.W.Frag) (H : Hp) : V → PyData → Prop
  | non : Td K H .non .none
  | bl (b : Bool) : Td K H (.bl b) (.bool b)
  | int (i : Int) : Td K H (.int i) (.int i)
  | str (t : Str) : Td K H (.str t) (.str t)
  | tup {a : Addr} {xs : List V} {ds : List PyData} : SqT K H a xs → TdAll K H xs ds → Td K H (.ref a) (.tuple ds)
  | d0 {a : Addr} : H a = some (.dK []) → Td K H (.ref a) (.dict [])
  | d1 {a : Addr} {k : Key} {x : V} {e : PyData} : H a = some (.dK [(k, x)]) → Td K H x e → Td K H (.ref a) (.dict [(keyD k, e)])
inductive TdAll (K : PySem.W.Frag) (H : Hp) : List V → List PyData → Prop
  | nil : TdAll K H [] []
  | cons {v : V} {vs : List V} {d : PyData} {ds : List PyData} : Td K H v d → TdAll K H vs ds → TdAll K H (v :: vs) (d :: ds)
end
section
variable {X : Cx} {pins : List (Addr × Obj)} {σ : L2.St} {H : Hp} {s : Shared}
theorem keyD_reads {k : Key} {v : Value} {h : Heap} (e : keyIs k v = true) : Reads h v (keyD k) [] := by
  rcases keyIs_shape e with ⟨i, t, rfl, rfl⟩ | ⟨x, t, rfl, rfl⟩
  · exact .int i t
  · exact .str x t
theorem sys_ne2 {a : Addr} (h : (a == sysModules) = false) : sysModules ≠ a := fun z => by
  rw [← z] at h
  simp at h
mutual
theorem Td.reads (I : Inv X pins σ H s) : ∀ (d : PyData) (v : V) (u : Value), Td X.K H v d → RelV v u → ∃ as, Reads s.heap u d as ∧ sysModules ∉ as
  | .none, _, _, h, r => by
    cases h
    cases r
    exact ⟨_, Reads.none, by simp⟩
  | .bool b, _, _, h, r => by
    cases h
    cases r
    exact ⟨_, Reads.bool b, by simp⟩
  | .int i, _, _, h, r => by
    cases h
    obtain ⟨t, rfl⟩ := r
    exact ⟨_, Reads.int i t, by simp⟩
  | .str x, _, _, h, r => by
    cases h
    obtain ⟨t, rfl⟩ := r
    exact ⟨_, Reads.str x t, by simp⟩
  | .list ds, _, _, h, r => by cases h
  | .tuple ds, _, _, h, r => by
    cases h with
    | tup hs ha =>
      cases r
      obtain ⟨its, rv, ⟨o, ho, hc, n, hd⟩, _⟩ := I.tuple hs
      obtain ⟨as, hr, hn⟩ := Td.readsAll I ds _ its ha rv
      exact ⟨_, Reads.tuple ho hc hd hr, hn⟩
  | .dict [], _, _, h, r => by
    cases h with
    | d0 ha =>
      cases r
      obtain ⟨_, hs, vs, rel, o, es, ep, ho, hx, hdat, hk, hp, _⟩ := dk_of I.hok ha
      cases rel
      have he : es.toList = [] := by
        have := hp.length
        exact List.eq_nil_of_length_eq_zero this
      exact ⟨_, Reads.dict ho hx.1 hdat (by rw [he]; exact .nil) (by rw [he]; exact .nil), by simpa using sys_ne2 hs⟩
  | .dict [(kd, e)], _, _, h, r => by
    cases h with
    | @d1 a k x _ ha hsc =>
      cases r
      obtain ⟨_, hs, vs, rel, o, es, ep, ho, hx, hdat, hk, hp, _⟩ := dk_of I.hok ha
      cases rel with
      | @cons _ qv _ _ r1 r2 =>
        cases r2
        obtain ⟨er, rx⟩ := r1
        generalize hes : es.toList = el at hp
        cases hp with
        | @cons en _ _ _ p1 p2 p3 =>
          cases p3
          have er : k = qv.1 := er
          have rx : RelV x qv.2 := rx
          obtain ⟨bs, rv, nv⟩ := Td.reads I e x qv.2 hsc rx
          have rv : Reads s.heap en.val e bs := by
            rw [p2]
            exact rv
          have rk : Reads s.heap en.key (keyD k) [] := by
            rw [er]
            exact keyD_reads p1
          exact ⟨_, Reads.dict ho hx.1 hdat (by rw [hes]; exact .cons rk .nil) (by rw [hes]; exact .cons rv .nil), by simpa using ⟨sys_ne2 hs, nv⟩⟩
  | .dict (_ :: _ :: _), _, _, h, _ => by cases h
theorem Td.readsAll (I : Inv X pins σ H s) : ∀ (ds : List PyData) (vs : List V) (us : List Value), TdAll X.K H vs ds → Vals vs us → ∃ as, ReadsAll s.heap us ds as ∧ sysModules ∉ as
  | [], _, _, h, r => by
    cases h
    cases r
    exact ⟨_, ReadsAll.nil, by simp⟩
  | d :: ds, _, _, h, r => by
    cases h with
    | cons h1 h2 =>
      cases r with
      | cons r1 r2 =>
        obtain ⟨as, q1, n1⟩ := Td.reads I d _ _ h1 r1
        obtain ⟨bs, q2, n2⟩ := Td.readsAll I ds _ _ h2 r2
        exact ⟨_, ReadsAll.cons q1 q2, by simpa using ⟨n1, n2⟩⟩
end
end
/-- shown data, whatever dicts are in it -/
structure RepD (d : PyData) (k n : Nat) : Prop where
  sh : d.showable = true
  dp : d.depth ≤ k
  lv : d.leavesShort 400 = true
  bk : d.bulk ≤ n
theorem RepD.of {d : PyData} {k n : Nat} (h : RepOk d k n) : RepD d k n := ⟨h.sh, h.dp, h.lv, h.bk⟩
theorem RepD.mono {d : PyData} {k n k' n' : Nat} (h : RepD d k n) (hk : k ≤ k') (hn : n ≤ n') : RepD d k' n' := ⟨h.sh, Nat.le_trans h.dp hk, h.lv, Nat.le_trans h.bk hn⟩
theorem RepD.fits {d : PyData} {k n : Nat} (h : RepD d k n) (hn : n ≤ 40000) : d.shown.length ≤ sizeLine := by
  have e := PyData.shown_le_bulk 400 (by decide) d h.lv
  have b := h.bk
  have : (400 + 2) * d.bulk ≤ 402 * 40000 := Nat.mul_le_mul (by decide) (by omega)
  rw [sizeLine_eq]
  omega
theorem repD_all {ds : List PyData} {k n : Nat} : (∀ d ∈ ds, RepD d k n) → PyData.showableAll ds = true ∧ PyData.depthAll ds ≤ k ∧ PyData.leavesShortAll 400 ds = true ∧ PyData.bulkAll ds ≤ ds.length * (n + 1) := by
  induction ds with
  | nil => intro _; exact ⟨rfl, Nat.zero_le _, rfl, Nat.zero_le _⟩
  | cons d r ih =>
    intro h
    obtain ⟨h1, h3, h4, h5⟩ := ih fun x hx => h x (List.mem_cons_of_mem _ hx)
    have q := h d (List.mem_cons_self ..)
    refine ⟨?_, ?_, ?_, ?_⟩
    · simp only [PyData.showableAll, q.sh, h1, Bool.and_self]
    · simp only [PyData.depthAll]
      exact Nat.max_le.mpr ⟨q.dp, h3⟩
    · simp only [PyData.leavesShortAll, q.lv, h4, Bool.and_self]
    · simp only [PyData.bulkAll, List.length_cons]
      have b := q.bk
      have e : (r.length + 1) * (n + 1) = r.length * (n + 1) + (n + 1) := Nat.succ_mul _ _
      omega
theorem RepD.tuple {ds : List PyData} {k n : Nat} (h : ∀ d ∈ ds, RepD d k n) : RepD (.tuple ds) (k + 1) (ds.length * (n + 1)) := by
  obtain ⟨h1, h3, h4, h5⟩ := repD_all h
  exact ⟨by simpa only [PyData.showable] using h1, by simp only [PyData.depth]; omega, by simpa only [PyData.leavesShort] using h4, by simpa only [PyData.bulk] using h5⟩
theorem RepD.d0 : RepD (.dict []) 1 0 := ⟨by simp [PyData.showable, PyData.showableKv], by simp [PyData.depth, PyData.depthKv], by simp [PyData.leavesShort, PyData.leavesShortKv], by simp [PyData.bulk, PyData.bulkKv]⟩
theorem RepD.d1 {a b : PyData} {k m n : Nat} (ha : RepD a k m) (hb : RepD b k n) : RepD (.dict [(a, b)]) (k + 1) (m + n + 2) := by
  refine ⟨?_, ?_, ?_, ?_⟩
  · simp [PyData.showable, PyData.showableKv, ha.sh, hb.sh]
  · have := ha.dp
    have := hb.dp
    simp [PyData.depth, PyData.depthKv]
    omega
  · simp [PyData.leavesShort, PyData.leavesShortKv, ha.lv, hb.lv]
  · have := ha.bk
    have := hb.bk
    simp [PyData.bulk, PyData.bulkKv]
    omega
/-- data, with small dicts in it or without -/
inductive Te (K : PySem.W.Frag) (H : Hp) : V → PyData → Prop
  | dp {v : V} {d : PyData} {k n : Nat} : Dp K H v d → RepOk d k n → k ≤ 40 → n ≤ 40000 → Te K H v d
  | td {a : Addr} {d : PyData} {k n : Nat} : Td K H (.ref a) d → RepD d k n → k ≤ 40 → n ≤ 40000 → Te K H (.ref a) d
mutual
theorem td_same {K : PySem.W.Frag} {H H1 : Hp} (s : Same H H1) : ∀ (d : PyData) (v : V), Td K H v d → Td K H1 v d
  | .none, _, h => by cases h; exact .non
  | .bool b, _, h => by cases h; exact .bl b
  | .int i, _, h => by cases h; exact .int i
  | .str x, _, h => by cases h; exact .str x
  | .list ds, _, h => by cases h
  | .tuple ds, _, h => by
    cases h with
    | tup hs ha => exact .tup (same_seqT s hs) (tdAll_same s ds _ ha)
  | .dict [], _, h => by
    cases h with
    | d0 ha => exact .d0 (s _ _ ha)
  | .dict [(kd, e)], _, h => by
    cases h with
    | d1 ha hx => exact .d1 (s _ _ ha) (td_same s e _ hx)
  | .dict (_ :: _ :: _), _, h => by cases h
theorem tdAll_same {K : PySem.W.Frag} {H H1 : Hp} (s : Same H H1) : ∀ (ds : List PyData) (vs : List V), TdAll K H vs ds → TdAll K H1 vs ds
  | [], _, h => by cases h; exact .nil
  | d :: ds, _, h => by
    cases h with
    | cons h1 h2 => exact .cons (td_same s d _ h1) (tdAll_same s ds _ h2)
end
theorem Te.same {K : PySem.W.Frag} {H H1 : Hp} {v : V} {d : PyData} (h : Te K H v d) (s : Same H H1) : Te K H1 v d := by
  cases h with
  | dp h1 h2 h3 h4 => exact .dp (dp_same s _ _ h1) h2 h3 h4
  | td h1 h2 h3 h4 => exact .td (td_same s _ _ h1) h2 h3 h4
def rRepr5 (K : PySem.W.Frag) : List V → Hp → VK → Prop := fun xs H Q => ∃ v d, xs = [v] ∧ Te K H v d ∧ Q (.str d.shown) H
theorem call_repr5 {X : Cx} (hG : X.A.guards = some []) (hu : X.A.units + 64 < cLine) : CallR X (.builtin "repr") (rRepr5 X.K) := by
  intro pins s σ H xs us Q I r h
  obtain ⟨v, d, e, hd, q⟩ := h
  cases hd with
  | dp h1 h2 h3 h4 => exact call_reprD hG hu pins s σ H xs us Q I r ⟨v, d, _, _, e, h1, h2, h3, h4, q⟩
  | @td a _ k n h1 h2 h3 h4 =>
    subst e
    rw [Vals.ref1 r]
    obtain ⟨as, rd, nos⟩ := Td.reads I d (.ref a) (.ref a) h1 rfl
    have fin : ∀ (h' : Heap) (u : Tok) (tk : Nat), (∀ b o, s.heap.get? b = some o → h'.get? b = some o) → EP X pins σ Q (.str d.shown u) { s with heap := h', toks := tk } :=
      fun h' u tk hk => ⟨.str d.shown, H, I.un (Un.kept hk) (I.hok.kept hk), ⟨u, rfl⟩, q⟩
    have dp := h2.dp
    exact repr_of_reads' rd h2.sh (fun _ => nos) hG (by omega) (fun _ _ z => z) fin (h2.fits h4)
theorem k_repr5 (K : PySem.W.Frag) {X : Cx} (hG : X.A.guards = some []) (hu : X.A.units + 64 < cLine) (h : X.K = K := by rfl) : CallR X (.builtin "repr") (rRepr5 K) := by
  subst h
  exact call_repr5 hG hu
end RO

namespace RO
open PySem PySem.Spec PyProof.Rows L2

/-! ### a tuple of three, turned about -/
section
variable {prog : Program} {w : World} {A : Around} {E : Value → Shared → Prop} {s : Shared}
theorem rev3_applied {sl : Addr} {k : Tok} {Q : Int × Int × Nat → Shared → Prop} (hs : s.heap.IsSliceOf sl .none .none (.int (-1) k)) (h : Q (2, -1, 3) s) : wpAny (model prog w) A (Builtin.Slice.sliceApplied (.ref sl) (pure ((3 : Nat) : Int))) Q E s := by
  obtain ⟨o, e1, e2, e3⟩ := id hs
  unfold Builtin.Slice.sliceApplied Builtin.Slice.sliceFields
  refine wpAny_bind (wpAny_bind (wpAny_field e1 e3 (x := .none) rfl (wpAny_bind (wpAny_field e1 e3 (x := .none) rfl (wpAny_bind (wpAny_field e1 e3 (x := .int (-1) k) rfl (wpAny_pure ?_)))))))
  refine wpAny_bind (HT.slicePart_ (.int (-1) k) ?_)
  show wpAny _ _ (if ((-1 : Int) == 0) = true then _ else _) _ _ s
  rw [if_neg (by decide)]
  refine wpAny_bind (HT.slicePart_ .none (wpAny_bind (HT.slicePart_ .none (wpAny_bind (wpAny_pure ?_)))))
  exact wpAny_of_eq (a := ((2 : Int), (-1 : Int), (3 : Nat))) rfl h
theorem rev3_get {t sl : Addr} {a b c : Value} {k : Tok} {Q : Value → Shared → Prop} (ht : IsTup s.heap t [a, b, c].toArray) (hs : s.heap.IsSliceOf sl .none .none (.int (-1) k))
    (h : Q (.ref s.heap.objs.size) { s with heap := s.heap.push { cls := .type "tuple", data := .seq [c, b, a].toArray } }) : wpAny (model prog w) A (getItem (.ref t) (.ref sl)) Q E s := by
  obtain ⟨o, e1, e2, e3⟩ := id hs
  have ty : s.TypeIs (.ref sl) "slice" := ⟨o, e1, e2⟩
  unfold getItem
  try with_reducible refine wpAny_holding ?_
  first | refine wpAny_bind (wpAny_pure ?_) | skip
  refine wpAny_bind (wpAny_sequenceKey ht.typeIs (by decide) ?_)
  refine wpAny_bind (wpAny_callSpecial?_slot (name := Str.ofString "__getitem__") ht.typeIs PyProof.Rows.slot_tuple_getitem (wpAny_call_entry PyProof.Rows.slot_tuple_getitem ht.typeIs entry_tuple_getitem ?_ (args_tuple_getitem _ _)))
  show wpAny _ _ (Builtin.Tuple.tupleItemsOf (.ref t) >>= _) _ _ s
  refine wpAny_bind (tupleItemsOf_ ht ?_)
  refine wpAny_bind (wpAny_typeOf ty ?_)
  rw [if_pos (by decide)]
  refine wpAny_bind (rev3_applied hs ?_)
  show wpAny _ _ (if (((2 : Int) == 0 && (-1 : Int) == 1 && (3 : Nat) == 3) = true) then _ else _) _ _ s
  rw [if_neg (by decide)]
  have fit : sizeOk (.seq [c, b, a].toArray) := by show 3 ≤ sizeLine; decide
  have e : ((List.range 3).filterMap fun (m : Nat) => ([a, b, c].toArray)[((2 : Int) + (m : Int) * -1).toNat]?).toArray = [c, b, a].toArray := rfl
  rw [e]
  first
    | exact wpAny_bind (m := Builtin.Tuple.tupleExact _) (wpAny_newObj_type (wpAny_pure ⟨_, rfl, wpAny_pure h⟩) fit)
    | exact wpAny_bind (m := Builtin.Tuple.tupleExact _) (wpAny_newObj_type (wpAny_bind (wpAny_pure (wpAny_pure ⟨_, rfl, wpAny_pure h⟩))) fit)
    | exact wpAny_bind (wpAny_bind (m := Builtin.Tuple.tupleExact _) (wpAny_newObj_type (wpAny_pure (wpAny_pure ⟨_, rfl, wpAny_pure h⟩)) fit))
    | exact wpAny_bind (wpAny_bind (m := Builtin.Tuple.tupleExact _) (wpAny_newObj_type (wpAny_pure ⟨_, rfl, wpAny_pure h⟩) fit))
end
def tRev3 (K : PySem.W.Frag) (te : TE) : TE := fun σ H Q => te σ H fun v H1 => ∃ a x y z, v = .ref a ∧ SqT K H1 a [x, y, z] ∧ ∀ p, H1 p = none → Q (.ref p) (upd H1 p (.tup [z, y, x]))
theorem pe_rev3 (K : PySem.W.Frag) {X : Cx} {e : Expr} {te : TE} {k : Nat} {p1 p2 p3 pos : Pos} (he : PE X e te) (hK : X.K = K := by rfl) : PE X (.Subscript e (.Slice none none (some (.UnaryOp .USub (.Constant (.int 1) k p1) p2)) p3) pos) (tRev3 K te) := by
  subst hK
  refine ⟨fun pins s σ H Q I h => ?_⟩
  refine Subscript_ (thn (he.run pins s σ H _ I h) fun v s1 ⟨x0, H1, I1, r1, q1⟩ => ?_)
  obtain ⟨a, x, y, z, ex, hx, q⟩ := q1
  subst ex
  cases r1
  have hst : PO X (some (.UnaryOp .USub (.Constant (.int 1) k p1) p2)) (tPart (tUn (rU fun i => .int (-i)) (tC (.int 1)))) := po_some (pe_un un_neg pe_int)
  refine wpAny_Slice (thn (po_none.run pins s1 σ H1 (fun o H2 => o = none ∧ H2 = H1) I1 ⟨rfl, rfl⟩) fun vl s2 ⟨l, H2, I2, pl, el, e2⟩ => ?_)
  subst el e2
  cases pl
  refine thn (po_none.run pins s2 σ H2 (fun o H3 => o = none ∧ H3 = H2) I2 ⟨rfl, rfl⟩) fun vu s3 ⟨u, H3, I3, pu, eu, e3⟩ => ?_
  subst eu e3
  cases pu
  refine thn (hst.run pins s3 σ H3 (fun o H4 => o = some (-1) ∧ H4 = H3) I3 ⟨1, rfl, -1, rfl, rfl, rfl⟩) fun vs s4 ⟨o, H4, I4, ps, eo, e4⟩ => ?_
  subst eo e4
  obtain ⟨tk, rfl⟩ : ∃ tk, vs = .int (-1) tk := by
    cases ps
    exact ⟨_, rfl⟩
  have I5 : Inv X pins σ H4 { s4 with heap := s4.heap.push { cls := .type "slice", data := .fields #[.none, .none, .int (-1) tk] } } := I4.kept (t' := s4.toks) fun b ob q => Heap.get?_push_of_some _ q
  obtain ⟨its, r, ht, hz⟩ := I5.tuple hx
  obtain ⟨u1, u2, u3, rfl, q1, q2, q3⟩ : ∃ u1 u2 u3, its = [u1, u2, u3] ∧ RelV x u1 ∧ RelV y u2 ∧ RelV z u3 := by
    cases r with
    | cons p q =>
      cases q with
      | cons p' q' =>
        cases q' with
        | cons p'' q'' =>
          cases q''
          exact ⟨_, _, _, rfl, p, p', p''⟩
  show wpAny (model X.prog X.w) X.A (subscriptTail e (.Slice none none (some (.UnaryOp .USub (.Constant (.int 1) k p1) p2)) p3) (.ref a) (.ref s4.heap.objs.size)) (EP X pins σ Q) X.xe { s4 with heap := s4.heap.push { cls := .type "slice", data := .fields #[.none, .none, .int (-1) tk] } }
  refine tail_any (ops := [.ref a, .ref s4.heap.objs.size]) ht.typeIs (PyProof.Rows.slot_tuple_getitem.lookup) ?_ (by with_unfolding_all rfl)
  refine rev3_get ht (Heap.IsSliceOf.new _ .none .none (.int (-1) tk)) ?_
  refine ⟨.ref _, _, I5.laid (t' := s4.toks) (o := .tup [z, y, x]) (fun b ob q => Heap.get?_push_of_some _ q) (Nat.le_refl _) ?_, rfl, q _ (I5.hok.fresh (Nat.le_refl _))⟩
  exact ⟨by show 3 ≤ sizeLine; decide, _, .cons q3 (.cons q2 (.cons q1 .nil)), IsTup.new _ _⟩
end RO

namespace RO
open PySem PySem.Spec PyProof.Rows L2

/-! ### a tuple, turned about -/
theorem back_snoc {α : Type} {p : List α → Prop} (h0 : p []) (h1 : ∀ l a, p l → p (l ++ [a])) : ∀ l, p l := fun l => by
  have : ∀ l : List α, p l.reverse := fun l => by
    induction l with
    | nil => exact h0
    | cons a l ih =>
      rw [List.reverse_cons]
      exact h1 _ _ ih
  have z := this l.reverse
  rw [List.reverse_reverse] at z
  exact z
theorem fm_cong {α β : Type} {f g : α → Option β} : ∀ {l : List α}, (∀ x ∈ l, f x = g x) → l.filterMap f = l.filterMap g
  | [], _ => rfl
  | x :: l, h => by
    rw [List.filterMap_cons, List.filterMap_cons, h x (List.mem_cons_self ..), fm_cong fun y hy => h y (List.mem_cons_of_mem _ hy)]
theorem back_all {α : Type} (l : List α) : (List.range l.length).filterMap (fun m => l[l.length - 1 - m]?) = l.reverse := by
  refine back_snoc (p := fun l => (List.range l.length).filterMap (fun m => l[l.length - 1 - m]?) = l.reverse) rfl (fun l a ih => ?_) l
  rw [List.length_append, List.reverse_append]
  show (List.range (l.length + 1)).filterMap (fun m => (l ++ [a])[l.length + 1 - 1 - m]?) = a :: l.reverse
  rw [List.range_succ_eq_map, List.filterMap_cons]
  have e0 : (l ++ [a])[l.length + 1 - 1 - 0]? = some a := by
    rw [show l.length + 1 - 1 - 0 = l.length by omega, List.getElem?_append_right (Nat.le_refl _), Nat.sub_self]
    rfl
  rw [e0, List.filterMap_map, ← ih]
  show a :: _ = a :: _
  congr 1
  refine fm_cong fun m hm => ?_
  have hm := List.mem_range.mp hm
  show (l ++ [a])[l.length + 1 - 1 - (m + 1)]? = _
  rw [List.getElem?_append_left (by omega), show l.length + 1 - 1 - (m + 1) = l.length - 1 - m by omega]
theorem back_pick (xs : Array Value) : ((List.range xs.size).filterMap fun (m : Nat) => xs[(((xs.size : Int) - 1) + (m : Int) * -1).toNat]?).toArray = xs.toList.reverse.toArray := by
  rw [← back_all]
  congr 1
  rw [Array.length_toList]
  refine fm_cong fun m hm => ?_
  have hm := List.mem_range.mp hm
  rw [show (((xs.size : Int) - 1) + (m : Int) * -1).toNat = xs.size - 1 - m by omega]
  simp
section
variable {prog : Program} {w : World} {A : Around} {E : Value → Shared → Prop} {s : Shared}
theorem back_applied {sl : Addr} {k : Tok} {n : Nat} {Q : Int × Int × Nat → Shared → Prop} (hs : s.heap.IsSliceOf sl .none .none (.int (-1) k)) (h : Q ((n : Int) - 1, -1, n) s) : wpAny (model prog w) A (Builtin.Slice.sliceApplied (.ref sl) (pure (n : Int))) Q E s := by
  obtain ⟨o, e1, e2, e3⟩ := id hs
  unfold Builtin.Slice.sliceApplied Builtin.Slice.sliceFields
  refine wpAny_bind (wpAny_bind (wpAny_field e1 e3 (x := .none) rfl (wpAny_bind (wpAny_field e1 e3 (x := .none) rfl (wpAny_bind (wpAny_field e1 e3 (x := .int (-1) k) rfl (wpAny_pure ?_)))))))
  refine wpAny_bind (HT.slicePart_ (.int (-1) k) ?_)
  show wpAny _ _ (if ((-1 : Int) == 0) = true then _ else _) _ _ s
  rw [if_neg (by decide)]
  refine wpAny_bind (HT.slicePart_ .none (wpAny_bind (HT.slicePart_ .none (wpAny_bind (wpAny_pure ?_)))))
  refine wpAny_of_eq (a := ((n : Int) - 1, (-1 : Int), n)) ?_ h
  have pl : Builtin.Slice.slicePlaces ((n : Int) - 1) (-1) (-1) = n := by
    unfold Builtin.Slice.slicePlaces
    rw [if_neg (by decide)]
    by_cases z : n = 0
    · subst z
      rfl
    · rw [if_pos (by omega)]
      have : ((n : Int) - 1 - -1 - 1) / -(-1) = (n : Int) - 1 := by
        rw [show -(-1 : Int) = 1 from rfl, Int.ediv_one]
        omega
      rw [this]
      omega
  show (pure (((n : Int) - 1), (-1 : Int), Builtin.Slice.slicePlaces ((n : Int) - 1) (-1) (-1)) : Sem (Int × Int × Nat)) = _
  rw [pl]
theorem back_get {t sl : Addr} {xs : Array Value} {k : Tok} {Q : Value → Shared → Prop} (ht : IsTup s.heap t xs) (hs : s.heap.IsSliceOf sl .none .none (.int (-1) k)) (hz : xs.size ≤ sizeLine)
    (h : Q (.ref s.heap.objs.size) { s with heap := s.heap.push { cls := .type "tuple", data := .seq xs.toList.reverse.toArray } }) : wpAny (model prog w) A (getItem (.ref t) (.ref sl)) Q E s := by
  obtain ⟨o, e1, e2, e3⟩ := id hs
  have ty : s.TypeIs (.ref sl) "slice" := ⟨o, e1, e2⟩
  unfold getItem
  try with_reducible refine wpAny_holding ?_
  first | refine wpAny_bind (wpAny_pure ?_) | skip
  refine wpAny_bind (wpAny_sequenceKey ht.typeIs (by decide) ?_)
  refine wpAny_bind (wpAny_callSpecial?_slot (name := Str.ofString "__getitem__") ht.typeIs PyProof.Rows.slot_tuple_getitem (wpAny_call_entry PyProof.Rows.slot_tuple_getitem ht.typeIs entry_tuple_getitem ?_ (args_tuple_getitem _ _)))
  show wpAny _ _ (Builtin.Tuple.tupleItemsOf (.ref t) >>= _) _ _ s
  refine wpAny_bind (tupleItemsOf_ ht ?_)
  refine wpAny_bind (wpAny_typeOf ty ?_)
  rw [if_pos (by decide)]
  refine wpAny_bind (back_applied hs ?_)
  show wpAny _ _ (if ((((xs.size : Int) - 1) == 0 && (-1 : Int) == 1 && xs.size == xs.size) = true) then _ else _) _ _ s
  rw [if_neg (by rw [show ((-1 : Int) == 1) = false from rfl, Bool.and_false, Bool.false_and]; exact Bool.false_ne_true)]
  have fit : sizeOk (.seq xs.toList.reverse.toArray) := by
    show xs.toList.reverse.toArray.size ≤ sizeLine
    rw [List.size_toArray, List.length_reverse, Array.length_toList]
    exact hz
  rw [back_pick]
  first
    | exact wpAny_bind (m := Builtin.Tuple.tupleExact _) (wpAny_newObj_type (wpAny_pure ⟨_, rfl, wpAny_pure h⟩) fit)
    | exact wpAny_bind (m := Builtin.Tuple.tupleExact _) (wpAny_newObj_type (wpAny_bind (wpAny_pure (wpAny_pure ⟨_, rfl, wpAny_pure h⟩))) fit)
    | exact wpAny_bind (wpAny_bind (m := Builtin.Tuple.tupleExact _) (wpAny_newObj_type (wpAny_pure (wpAny_pure ⟨_, rfl, wpAny_pure h⟩)) fit))
    | exact wpAny_bind (wpAny_bind (m := Builtin.Tuple.tupleExact _) (wpAny_newObj_type (wpAny_pure ⟨_, rfl, wpAny_pure h⟩) fit))
end
def tRevU (K : PySem.W.Frag) (te : TE) : TE := fun σ H Q => te σ H fun v H1 => ∃ a xs, v = .ref a ∧ SqT K H1 a xs ∧ ∀ p, H1 p = none → Q (.ref p) (upd H1 p (.tup xs.reverse))
theorem pe_revU (K : PySem.W.Frag) {X : Cx} {e : Expr} {te : TE} {k : Nat} {p1 p2 p3 pos : Pos} (he : PE X e te) (hK : X.K = K := by rfl) : PE X (.Subscript e (.Slice none none (some (.UnaryOp .USub (.Constant (.int 1) k p1) p2)) p3) pos) (tRevU K te) := by
  subst hK
  refine ⟨fun pins s σ H Q I h => ?_⟩
  refine Subscript_ (thn (he.run pins s σ H _ I h) fun v s1 ⟨x0, H1, I1, r1, q1⟩ => ?_)
  obtain ⟨a, xs, ex, hx, q⟩ := q1
  subst ex
  cases r1
  have hst : PO X (some (.UnaryOp .USub (.Constant (.int 1) k p1) p2)) (tPart (tUn (rU fun i => .int (-i)) (tC (.int 1)))) := po_some (pe_un un_neg pe_int)
  refine wpAny_Slice (thn (po_none.run pins s1 σ H1 (fun o H2 => o = none ∧ H2 = H1) I1 ⟨rfl, rfl⟩) fun vl s2 ⟨l, H2, I2, pl, el, e2⟩ => ?_)
  subst el e2
  cases pl
  refine thn (po_none.run pins s2 σ H2 (fun o H3 => o = none ∧ H3 = H2) I2 ⟨rfl, rfl⟩) fun vu s3 ⟨u, H3, I3, pu, eu, e3⟩ => ?_
  subst eu e3
  cases pu
  refine thn (hst.run pins s3 σ H3 (fun o H4 => o = some (-1) ∧ H4 = H3) I3 ⟨1, rfl, -1, rfl, rfl, rfl⟩) fun vs s4 ⟨o, H4, I4, ps, eo, e4⟩ => ?_
  subst eo e4
  obtain ⟨tk, rfl⟩ : ∃ tk, vs = .int (-1) tk := by
    cases ps
    exact ⟨_, rfl⟩
  have I5 : Inv X pins σ H4 { s4 with heap := s4.heap.push { cls := .type "slice", data := .fields #[.none, .none, .int (-1) tk] } } := I4.kept (t' := s4.toks) fun b ob q => Heap.get?_push_of_some _ q
  obtain ⟨its, r, ht, hz⟩ := I5.tuple hx
  have hl := r.length
  show wpAny (model X.prog X.w) X.A (subscriptTail e (.Slice none none (some (.UnaryOp .USub (.Constant (.int 1) k p1) p2)) p3) (.ref a) (.ref s4.heap.objs.size)) (EP X pins σ Q) X.xe { s4 with heap := s4.heap.push { cls := .type "slice", data := .fields #[.none, .none, .int (-1) tk] } }
  refine tail_any (ops := [.ref a, .ref s4.heap.objs.size]) ht.typeIs (PyProof.Rows.slot_tuple_getitem.lookup) ?_ (by with_unfolding_all rfl)
  refine back_get ht (Heap.IsSliceOf.new _ .none .none (.int (-1) tk)) (by rw [List.size_toArray]; omega) ?_
  refine ⟨.ref _, _, I5.laid (t' := s4.toks) (o := .tup xs.reverse) (fun b ob q => Heap.get?_push_of_some _ q) (Nat.le_refl _) ?_, rfl, q _ (I5.hok.fresh (Nat.le_refl _))⟩
  exact ⟨by rw [List.length_reverse]; exact hz, _, r.reverse, IsTup.new _ _⟩
/-! ### a tuple taken once or oftener -/
theorem once_mul (l : Addr) (items : Array Value) (n : Nat) (dd : Option Addr) (sl : Array (Option Value)) (u : Tok) :
    Meets (Builtin.«tuple.__mul__» ⟨[.ref l, .int 1 u], []⟩) (fun _ R s => s.heap.get? l = some { cls := .type "tuple", dict := dd, data := .seq items n, slots := sl } ∧ R (.ok (.ret (.ref l))) s) :=
  .of_wp fun prog w A R s h => by
    obtain ⟨hp, g, d, tk, os⟩ := s
    obtain ⟨hl, h⟩ := h
    have f1 := AutoSeq1.idx_int
    wp_walk using wpAny_loadPart' hl
    exact ⟨_, rfl, h⟩
def rRepU (K : PySem.W.Frag) : R2 := fun x y H Q => ∃ l k xs, x = .ref l ∧ y = .int k ∧ SqT K H l xs ∧ xs ≠ [] ∧ 1 ≤ k ∧ k ≤ 1000 ∧ xs.length ≤ 1000 ∧ ∀ q H', Same H H' → SqT K H' q (List.replicate k.toNat xs).flatten → Q (.ref q) H'
theorem k_repU (K : PySem.W.Frag) {X : Cx} (h : X.K = K := by rfl) : OpR X (binaryOp .Mult) (rRepU K) := by
  subst h
  intro pins s σ H x y v u Q I rx ry h
  obtain ⟨l, k, xs, rfl, rfl, hT, hne, h1, h2, hz, q⟩ := h
  by_cases k1 : k = 1
  · subst k1
    cases rx
    obtain ⟨t, rfl⟩ := ry
    obtain ⟨its, r, ⟨⟨cls, dd, data, sl⟩, ho, hc, n, hd⟩, hs⟩ := I.tuple hT
    simp only at hc hd
    subst hc hd
    refine wpAny_binaryOp_repeat_ref (T := "tuple") (U := "int") (by decide) ⟨_, ho, rfl⟩ (fun s' => typeIs_int s' 1 t) L2.noFill_tuple_mul F.fills_int_mul F.slot_int_rmul L2.repeat_tuple F.slot_int_index.lookup
      (call_meets F.slot_int_rmul (typeIs_int s 1 t) F.entry_int_rmul (F.args_int_rmul_2 _ _) (L2.int_rmul_tuple 1 t l its.toArray n dd sl)
        ⟨ho, rfl, ⟨_, ho, rfl⟩, call_meets F.slot_tuple_mul ⟨_, ho, rfl⟩ F.entry_tuple_mul (F.args_tuple_mul_2 _ _) (once_mul l its.toArray n dd sl t) ⟨ho, ?_⟩⟩)
    have e : (List.replicate (1 : Int).toNat xs).flatten = xs := by
      show xs ++ [] = xs
      rw [List.append_nil]
    exact ⟨.ref l, H, I, rfl, q l H (Same.refl _) (by rw [e]; exact hT)⟩
  · exact op_repT pins s σ H _ _ v u Q I rx ry ⟨l, k, xs, rfl, rfl, hT, hne, by omega, h2, hz, fun p hp => q p _ (same_new (Same.refl _) hp) (SqT.of upd_same)⟩
end RO

namespace RO
open PySem PySem.Spec PyProof.Rows L2

/-! ### dict(enumerate(t)), t a tuple -/
section
variable {prog : Program} {w : World} {A : Around} {E : Value → Shared → Prop} {s : Shared}
theorem next_heldT {e it l T : Addr} {i : Nat} {items : Array Value} {x old : Value} {f : Bool} {oT : Obj} {Q : Value → Shared → Prop}
    (he : IsEnumHeld s.heap e it (i : Int) old T f) (hT : s.heap.get? T = some oT) (hTe : T ≠ e) (hTi : T ≠ it) (hit : s.heap.IsTupleIter it l i) (hl : s.heap.IsTuple l items) (hx : items[i]? = some x) (hne : e ≠ it)
    (hQ : ∀ h', IsEnumHeld h' e it ((i : Int) + 1) old T true → h'.IsTupleIter it l (i + 1) → h'.get? s.heap.objs.size = some { cls := .type "tuple", data := .seq #[.int (i : Int) s.toks, x] } → h'.objs.size = s.heap.objs.size + 1 →
      (∀ b o, b ≠ e → b ≠ it → s.heap.get? b = some o → h'.get? b = some o) → Q (.ref s.heap.objs.size) { s with heap := h', toks := s.toks + 1 }) :
    wpAny (model prog w) A (Builtin.«enumerate.__next__» ⟨[.ref e], []⟩) (fun fin s' => ∃ v, fin = .done (.ret v) ∧ Q v s') E s := by
  obtain ⟨hp, g, d, tk, os⟩ := s
  unfold Builtin.«enumerate.__next__»
  show wpAny _ _ (field (.ref e) 2 >>= _) _ _ _
  refine wpAny_bind (wpAny_field he rfl rfl (wpAny_bind (RZ.nextOf_tuple_item hit hl hx fun h₁ hit₁ hs₁ => ?_)))
  have he₁ := (hs₁.2 e hne).trans he
  refine wpAny_bind (wpAny_field he₁ rfl rfl ?_)
  refine wpAny_bind (wpAny_field he₁ rfl rfl ?_)
  refine wpAny_bind (wpAny_mkInt ?_)
  refine wpAny_bind (wpAny_setField_rec he₁ (by show 3 < 6; decide) fun h₂ he₂ hs₂ => ?_)
  refine wpAny_bind (wpAny_setField_rec he₂ (by show 4 < 6; decide) fun h₃ he₃ hs₃ => ?_)
  refine wpAny_bind (wpAny_newTuple ?_ (by show 2 ≤ sizeLine; decide))
  have hsz : h₃.objs.size = hp.objs.size := hs₃.1.trans (hs₂.1.trans hs₁.1)
  have he₄ := Heap.get?_push_of_some { cls := .type "tuple", data := .seq #[.int (i : Int) tk, x] } he₃
  have hel : e < hp.objs.size := Heap.lt_size he
  have ht₄ : (h₃.push { cls := .type "tuple", data := .seq #[.int (i : Int) tk, x] }).get? hp.objs.size = some { cls := .type "tuple", data := .seq #[.int (i : Int) tk, x] } := by
    rw [← hsz]
    exact Heap.get?_push_size h₃ rfl
  have hz₄ : (h₃.push { cls := .type "tuple", data := .seq #[.int (i : Int) tk, x] }).objs.size = hp.objs.size + 1 := by
    rw [Heap.size_push, hsz]
  have hk₄ : ∀ b o, b ≠ e → b ≠ it → hp.get? b = some o → (h₃.push { cls := .type "tuple", data := .seq #[.int (i : Int) tk, x] }).get? b = some o := fun b o hbe hbi hb =>
    Heap.get?_push_of_some _ (Heap.SameBut.extBut hs₃ b o hbe (Heap.SameBut.extBut hs₂ b o hbe (Heap.SameBut.extBut hs₁ b o hbi hb)))
  have hit₄ : (h₃.push { cls := .type "tuple", data := .seq #[.int (i : Int) tk, x] }).IsTupleIter it l (i + 1) := by
    obtain ⟨o, ho, r⟩ := hit₁
    exact ⟨o, Heap.get?_push_of_some _ (Heap.SameBut.extBut hs₃ it o (Ne.symm hne) (Heap.SameBut.extBut hs₂ it o (Ne.symm hne) ho)), r⟩
  show wpAny _ _ (Builtin.SmallTypes.ownedTupleIsFree (.ref e) >>= _) _ _ _
  refine wpAny_bind (wpAny_tupleHeld_enum he₄ (hk₄ T oT hTe hTi hT) fun h₅ he₅ hs₅ => ?_)
  rw [if_neg Bool.false_ne_true]
  show wpAny _ _ (ret (.ref h₃.objs.size)) _ _ _
  rw [hsz]
  refine wpAny_pure ⟨_, rfl, hQ h₅ he₅ ?_ (Heap.SameBut.extBut hs₅ _ _ (Nat.ne_of_gt hel) ht₄) (hs₅.1.trans hz₄) fun b o hbe hbi hb => Heap.SameBut.extBut hs₅ b o hbe (hk₄ b o hbe hbi hb)⟩
  obtain ⟨o, ho, r⟩ := hit₄
  exact ⟨o, Heap.SameBut.extBut hs₅ it o (Ne.symm hne) ho, r⟩
theorem pyNext_heldT {e it l T : Addr} {i : Nat} {items : Array Value} {x old : Value} {f : Bool} {oT : Obj} {Q : Option Value → Shared → Prop}
    (he : IsEnumHeld s.heap e it (i : Int) old T f) (hT : s.heap.get? T = some oT) (hTe : T ≠ e) (hTi : T ≠ it) (hit : s.heap.IsTupleIter it l i) (hl : s.heap.IsTuple l items) (hx : items[i]? = some x) (hne : e ≠ it)
    (hQ : ∀ h', IsEnumHeld h' e it ((i : Int) + 1) old T true → h'.IsTupleIter it l (i + 1) → h'.get? s.heap.objs.size = some { cls := .type "tuple", data := .seq #[.int (i : Int) s.toks, x] } → h'.objs.size = s.heap.objs.size + 1 →
      (∀ b o, b ≠ e → b ≠ it → s.heap.get? b = some o → h'.get? b = some o) → Q (some (.ref s.heap.objs.size)) { s with heap := h', toks := s.toks + 1 }) :
    wpAny (model prog w) A (pyNext (.ref e)) Q E s :=
  have hTy : s.TypeIs (.ref e) "enumerate" := ⟨_, he, rfl⟩
  wpAny_bind (wpAny_attempt (wpAny_callSpecial?_slot hTy F.slot_enumerate_next (wpAny_call_entry F.slot_enumerate_next hTy F.entry_enumerate_next
    (next_heldT he hT hTe hTi hit hl hx hne fun h' a1 a2 a3 a4 a5 => wpAny_pure (hQ h' a1 a2 a3 a4 a5)) (F.args_enumerate_next_1 (.ref e)))))
theorem pyNext_endT {e it l T : Addr} {i : Nat} {items : Array Value} {old : Value} {f : Bool} {Q : Option Value → Shared → Prop} (hh : A.handled = none)
    (he : IsEnumHeld s.heap e it (i : Int) old T f) (hit : s.heap.IsTupleIter it l i) (hl : s.heap.IsTuple l items) (hx : items[i]? = none)
    (hQ : ∀ h', Heap.ExtBut it s.heap h' → Q none { s with heap := h' }) : wpAny (model prog w) A (pyNext (.ref e)) Q E s := by
  have hTy : s.TypeIs (.ref e) "enumerate" := ⟨_, he, rfl⟩
  refine wpAny_bind (wpAny_attempt (wpAny_callSpecial?_slot hTy F.slot_enumerate_next (wpAny_call_entry F.slot_enumerate_next hTy F.entry_enumerate_next ?_ (F.args_enumerate_next_1 (.ref e)))))
  unfold Builtin.«enumerate.__next__»
  show wpAny _ _ (field (.ref e) 2 >>= _) _ _ _
  refine wpAny_bind (wpAny_field he rfl rfl (wpAny_bind (RZ.nextOf_tuple_end hh hit hl hx fun h' x he' hx' => ?_)))
  obtain ⟨o, ho, hc⟩ := hx'
  exact wpAny_bind (wpAny_isInstance ⟨o, ho, hc⟩ isSubtype_stop (wpAny_pure (hQ h' he')))
end
theorem arg_enumT {prog : Program} {w : World} (e it l : Addr) (hei : e ≠ it) (hle : l ≠ e) (hli : l ≠ it) (items : Array Value) :
    PairArg prog w "enumerate" e [e, it, l] [e, it] items.size (fun i k v => (∃ t, k = Value.int (i : Int) t) ∧ items[i]? = some v) fun h => (∃ old, IsEnum h e it 0 old) ∧ h.IsTupleIter it l 0 ∧ h.IsTuple l items where
  type := fun s ok => by
    obtain ⟨⟨_, he⟩, _⟩ := ok
    exact ⟨_, he, rfl⟩
  notDict := by decide
  keep := fun h h' ok hk => by
    obtain ⟨⟨old, he⟩, hit, o, ho, r⟩ := ok
    exact ⟨⟨old, hk _ _ he⟩, Heap.IsTupleIter.at hit fun o x => hk it o x, o, hk _ _ ho, r⟩
  there := fun h ok b hb => by
    obtain ⟨⟨old, he⟩, ⟨o1, h1, _⟩, o, ho, r⟩ := ok
    simp only [List.mem_cons, List.not_mem_nil, or_false] at hb
    rcases hb with z | z | z <;> subst z
    · exact ⟨_, he⟩
    · exact ⟨_, h1⟩
    · exact ⟨_, ho⟩
  sub := fun b hb => by
    simp only [List.mem_cons, List.not_mem_nil, or_false] at hb ⊢
    rcases hb with z | z
    · exact .inl z
    · exact .inr (.inl z)
  noKeys := fun A s Q E hA ok h => by
    obtain ⟨⟨_, he⟩, _⟩ := ok
    exact getAttrOr_miss_enumerate he rfl rfl rfl enumerate_no_keys (by decide) hA h (by decide +kernel)
  iter := fun A s d Q E hA ok hd hdf h => by
    obtain ⟨⟨old, he⟩, hit, hl⟩ := ok
    simp only [List.mem_cons, List.not_mem_nil, or_false, not_or] at hdf
    obtain ⟨de, dit, dl⟩ := hdf
    refine wpAny_pyIter_enum he (h e [e, it] (fun i h => h.IsTupleIter it l i ∧ h.IsTuple l items ∧ ((∃ old, IsEnum h e it ((i : Nat) : Int) old) ∨ ∃ old T f oT, IsEnumHeld h e it ((i : Nat) : Int) old T f ∧ h.get? T = some oT ∧ T ≠ e ∧ T ≠ it ∧ T ≠ d)) s.heap s.toks ?_ ⟨hit, hl, .inl ⟨old, he⟩⟩ (fun _ _ x => x) fun b hb => .inl hb)
    have tupKeep : ∀ {h1 h2 : Heap}, h1.IsTuple l items → (∀ o, h1.get? l = some o → h2.get? l = some o) → h2.IsTuple l items := fun ⟨o, ho, r⟩ k => ⟨o, k o ho, r⟩
    refine ⟨?_, ?_, ?_, ?_⟩
    · intro hm
      simp only [List.mem_cons, List.not_mem_nil, or_false] at hm
      rcases hm with z | z
      · exact de z
      · exact dit z
    · rintro i h1 h2 ⟨hit, hl, st⟩ hk
      refine ⟨Heap.IsTupleIter.at hit fun o x => hk it o (Ne.symm dit) x, tupKeep hl fun o x => hk l o (Ne.symm dl) x, ?_⟩
      rcases st with ⟨old, he⟩ | ⟨old, T, f, oT, he, hT, r1, r2, r3⟩
      · exact .inl ⟨old, hk e _ (Ne.symm de) he⟩
      · exact .inr ⟨old, T, f, oT, hk e _ (Ne.symm de) he, hk T oT r3 hT, r1, r2, r3⟩
    · rintro i s1 Q1 E1 hi ⟨hit, hl, st⟩ hds hQ
      have ex : items[i]? = some items[i] := Array.getElem?_eq_getElem hi
      have mem : ∀ {b : Addr}, b ∉ [e, it] → b ≠ e ∧ b ≠ it := fun hb => ⟨fun z => hb (by simp [z]), fun z => hb (by simp [z])⟩
      have il : it < s1.heap.objs.size := by
        obtain ⟨_, q, _⟩ := hit
        exact Heap.lt_size q
      have ec : ((i + 1 : Nat) : Int) = (i : Int) + 1 := by omega
      rcases st with ⟨old, he⟩ | ⟨old, T, f, oT, he, hT, r1, r2, r3⟩
      · refine wpAny_pyNext_enum_itemD (drawsT (A := A.in1) hA it l hli items) he ⟨hit, hl⟩ hi hei (by simp [hei, Ne.symm hle]) fun x h' tk px ho hst hT hsz hk => ?_
        have px : items[i]? = some x := px
        refine hQ s1.heap.objs.size (.int (i : Int) tk) x h' (tk + 1) ⟨⟨_, rfl⟩, px⟩ (.inl ⟨_, hT, rfl, 0, rfl⟩) ⟨hst.1, hst.2, .inr ⟨x, s1.heap.objs.size, false, _, by rw [ec]; exact ho, hT, Nat.ne_of_gt (Heap.lt_size he), Nat.ne_of_gt il, Nat.ne_of_gt hds⟩⟩ fun b o hb x => hk b o (mem hb).1 (mem hb).2 x
      · refine pyNext_heldT he hT r1 r2 hit hl ex hei fun h' ho hit' hT' hsz hk => ?_
        exact hQ s1.heap.objs.size (.int (i : Int) s1.toks) items[i] h' (s1.toks + 1) ⟨⟨_, rfl⟩, ex⟩ (.inl ⟨_, hT', rfl, 0, rfl⟩) ⟨hit', tupKeep hl fun o x => hk l o hle hli x, .inr ⟨old, T, true, oT, by rw [ec]; exact ho, hk T oT r1 r2 hT, r1, r2, r3⟩⟩ fun b o hb x => hk b o (mem hb).1 (mem hb).2 x
    · rintro s1 Q1 E1 ⟨hit, hl, st⟩ hQ
      have hx : items[items.size]? = none := Array.getElem?_eq_none (Nat.le_refl items.size)
      have mem : ∀ {b : Addr}, b ∉ [e, it] → b ≠ it := fun hb z => hb (by simp [z])
      rcases st with ⟨old, he⟩ | ⟨old, T, f, oT, he, hT, r1, r2, r3⟩
      · exact wpAny_pyNext_enum_endD (drawsT (A := A.in1) hA it l hli items) he ⟨hit, hl⟩ fun h' hk => hQ h' s1.toks fun b o hb x => hk b o (mem hb) x
      · exact pyNext_endT hA he hit hl hx fun h' hk => hQ h' s1.toks fun b o hb x => hk b o (mem hb) x
end RO

namespace RO
open PySem PySem.Spec PyProof.Rows L2

/-! ### dict(enumerate(t)) -/
def numbered : Nat → List V → List (Key × V)
  | _, [] => []
  | i, x :: r => (.inl (i : Int), x) :: numbered (i + 1) r
theorem numbered_len : ∀ (xs : List V) (i : Nat), (numbered i xs).length = xs.length
  | [], _ => rfl
  | _ :: r, i => by
    show (numbered (i + 1) r).length + 1 = _
    rw [numbered_len r]
    rfl
def numV : Nat → List Value → List (Key × Value)
  | _, [] => []
  | i, x :: r => (.inl (i : Int), x) :: numV (i + 1) r
theorem numV_len : ∀ (xs : List Value) (i : Nat), (numV i xs).length = xs.length
  | [], _ => rfl
  | _ :: r, i => by
    show (numV (i + 1) r).length + 1 = _
    rw [numV_len r]
    rfl
theorem numV_get : ∀ (xs : List Value) (i j : Nat) (v : Value), xs[j]? = some v → (numV i xs)[j]? = some (.inl ((i + j : Nat) : Int), v)
  | [], _, _, _, h => by simp at h
  | x :: r, i, 0, v, h => by
    obtain rfl := Option.some.inj h
    rfl
  | x :: r, i, j + 1, v, h => by
    have z := numV_get r (i + 1) j v h
    rw [show i + 1 + j = i + (j + 1) by omega] at z
    exact z
theorem num_kv : ∀ {xs : List V} {us : List Value} (i : Nat), Vals xs us → KV (numbered i xs) (numV i us)
  | _, _, _, .nil => .nil
  | _, _, i, .cons h r => .cons ⟨rfl, h⟩ (num_kv (i + 1) r)
def tDictE (K : PySem.W.Frag) (te : TE) : TE := fun σ H Q => te σ H fun v H1 => ∃ a xs, v = .ref a ∧ SqT K H1 a xs ∧ ∀ p, H1 p = none → Q (.ref p) (upd H1 p (.dK (mergeK [] (numbered 0 xs))))
theorem pe_dictE (K : PySem.W.Frag) {X : Cx} {e : Expr} {te : TE} {p1 p2 pos1 pos2 : Pos} (hc : X.calm = true) (hgd : Gl X "dict") (hmd : X.mg "dict" = none) (hge : Gl X "enumerate") (hme : X.mg "enumerate" = none) (he : PE X e te) (hK : X.K = K := by rfl)
    (hs : starEach [e] X.env = [(false, eval e X.env)] := by rfl) :
    PE X (.Call (.Name "dict" p1) [.Call (.Name "enumerate" p2) [e] [] pos2] [] pos1) (tDictE K te) := by
  subst hK
  refine ⟨fun pins s σ H Q I h => ?_⟩
  refine Call_ ?_
  apply ld_blt I hgd hmd boot_dict
  apply PyProof.Rows.callWith_type1 _ rfl rfl
  refine Calls.spliced_cons ?_
  show wpAny _ _ (eval (.Call (.Name "enumerate" p2) [e] [] pos2) X.env) _ _ _
  refine Call_ ?_
  apply ld_blt I hge hme boot_enumerate
  apply PyProof.Rows.callWith_type1 _ hs rfl
  rw [hs]
  refine Calls.spliced_cons ?_
  show wpAny _ _ (eval e X.env) _ _ _
  refine thn (he.run pins s σ H _ I h) fun u s1 ⟨x0, H1, I1, r1, a, xs, ex, hq, q⟩ => ?_
  subst ex
  obtain rfl : u = Value.ref a := r1
  refine Calls.spliced_nil ?_
  obtain ⟨its, rv, p', hz⟩ := I1.tuple hq
  obtain ⟨o, ho, _⟩ := id p'
  have hal : a < s1.heap.objs.size := Heap.lt_size ho
  refine call_enumT p' fun h' hen hit hsz hk => ?_
  refine Calls.spliced_nil ?_
  have hT' : h'.IsTuple a its.toArray := by
    obtain ⟨o, ho, r⟩ := p'
    exact ⟨o, hk _ _ ho, r⟩
  have I2 : Inv X pins σ H1 { s1 with heap := h' } := I1.kept (t' := s1.toks) hk
  refine call_dict_pairs (knd := mixKind X.prog X.w) (kvs := numV 0 its) (arg_enumT (s1.heap.objs.size + 1) s1.heap.objs.size a (Nat.succ_ne_self _) (Nat.ne_of_lt (Nat.lt_succ_of_lt hal)) (Nat.ne_of_lt hal) its.toArray) (I.ok.hd hc) ⟨⟨_, hen⟩, hit, hT'⟩ ⟨by rw [numV_len, List.size_toArray], fun i key v hr => ?_⟩ (by rw [List.size_toArray, ← rv.length]; exact hz) fun h2 tk hd hk2 => ?_
  · obtain ⟨⟨t, rfl⟩, hv⟩ := hr
    have hv : its[i]? = some v := by simpa using hv
    refine ⟨.inl ((0 + i : Nat) : Int), numV_get its 0 i v hv, ?_⟩
    rw [Nat.zero_add]
    exact decide_eq_true rfl
  · have kv := KV.merge (num_kv 0 rv) (kvs := []) (vs := []) .nil
    have len : (mergeK [] (numbered 0 xs)).length ≤ sizeLine := by
      have := length_mergeK (numbered 0 xs) []
      rw [numbered_len] at this
      have z : (mergeK [] (numbered 0 xs)).length ≤ 0 + xs.length := this
      omega
    have big : sysModules < h'.objs.size := I2.big
    have newE : ∀ b o, s1.heap.get? b = some o → h2.get? b = some o := fun b o hb => hk2 b o (fun hm => by
      have lt := Heap.lt_size hb
      simp only [List.mem_cons, List.not_mem_nil, or_false] at hm
      rcases hm with z | z
      · exact Nat.ne_of_lt (Nat.lt_succ_of_lt lt) z
      · exact Nat.ne_of_lt lt z) (hk b o hb)
    exact ⟨.ref h'.objs.size, _, I1.laid (t' := tk) (o := .dK (mergeK [] (numbered 0 xs))) newE (by rw [hsz]; omega) ⟨len, by
      have : h'.objs.size ≠ sysModules := Nat.ne_of_gt big
      simpa using this, _, kv, hd⟩, rfl, q _ (I1.hok.fresh (by rw [hsz]; omega))⟩
end RO

namespace RO
open PySem PySem.Spec PyProof.Rows L2

/-! ### data of any make: lists, tuples and dicts in one -/
mutual
inductive Tg (K : PySem.W.Frag) (H : Hp) : V → PyData → Prop
  | non : Tg K H .non .none
  | bl (b : Bool) : Tg K H (.bl b) (.bool b)
  | int (i : Int) : Tg K H (.int i) (.int i)
  | str (t : Str) : Tg K H (.str t) (.str t)
  | tup {a : Addr} {xs : List V} {ds : List PyData} : SqT K H a xs → TgAll K H xs ds → Tg K H (.ref a) (.tuple ds)
  | lst {a : Addr} {xs : List V} {ds : List PyData} : SqL K H a xs → a ≠ sysModules → TgAll K H xs ds → Tg K H (.ref a) (.list ds)
  | dct {a : Addr} {kvs : List (Key × V)} {es : List (PyData × PyData)} : H a = some (.dK kvs) → TgKv K H kvs es → Tg K H (.ref a) (.dict es)
inductive TgAll (K : PySem.W.Frag) (H : Hp) : List V → List PyData → Prop
  | nil : TgAll K H [] []
  | cons {v : V} {vs : List V} {d : PyData} {ds : List PyData} : Tg K H v d → TgAll K H vs ds → TgAll K H (v :: vs) (d :: ds)
inductive TgKv (K : PySem.W.Frag) (H : Hp) : List (Key × V) → List (PyData × PyData) → Prop
  | nil : TgKv K H [] []
  | cons {k : Key} {v : V} {kvs : List (Key × V)} {e : PyData} {es : List (PyData × PyData)} : Tg K H v e → TgKv K H kvs es → TgKv K H ((k, v) :: kvs) ((keyD k, e) :: es)
end
section
variable {X : Cx} {pins : List (Addr × Obj)} {σ : L2.St} {H : Hp} {s : Shared}
mutual
theorem Tg.reads (I : Inv X pins σ H s) : ∀ (d : PyData) (v : V) (u : Value), Tg X.K H v d → RelV v u → ∃ as, Reads s.heap u d as ∧ sysModules ∉ as
  | .none, _, _, h, r => by
    cases h
    cases r
    exact ⟨_, Reads.none, by simp⟩
  | .bool b, _, _, h, r => by
    cases h
    cases r
    exact ⟨_, Reads.bool b, by simp⟩
  | .int i, _, _, h, r => by
    cases h
    obtain ⟨t, rfl⟩ := r
    exact ⟨_, Reads.int i t, by simp⟩
  | .str x, _, _, h, r => by
    cases h
    obtain ⟨t, rfl⟩ := r
    exact ⟨_, Reads.str x t, by simp⟩
  | .list ds, _, _, h, r => by
    cases h with
    | lst hs hn0 ha =>
      cases r
      obtain ⟨its, rv, p, _⟩ := I.list hs
      obtain ⟨o, ho, hc, n, hd⟩ := p.isList
      obtain ⟨as, hr, hn⟩ := Tg.readsAll I ds _ its ha rv
      exact ⟨_, Reads.list ho hc hd hr, by simpa using ⟨Ne.symm hn0, hn⟩⟩
  | .tuple ds, _, _, h, r => by
    cases h with
    | tup hs ha =>
      cases r
      obtain ⟨its, rv, ⟨o, ho, hc, n, hd⟩, _⟩ := I.tuple hs
      obtain ⟨as, hr, hn⟩ := Tg.readsAll I ds _ its ha rv
      exact ⟨_, Reads.tuple ho hc hd hr, hn⟩
  | .dict kes, _, _, h, r => by
    cases h with
    | dct ha hkv =>
      cases r
      obtain ⟨_, hs, vs, rel, o, es, ep, ho, hx, hdat, hk, hp, _⟩ := dk_of I.hok ha
      obtain ⟨as, r1, r2, n2⟩ := Tg.readsKv I kes _ vs es.toList hkv rel hp
      exact ⟨_, Reads.dict ho hx.1 hdat r1 r2, by simpa using ⟨sys_ne2 hs, n2⟩⟩
theorem Tg.readsAll (I : Inv X pins σ H s) : ∀ (ds : List PyData) (vs : List V) (us : List Value), TgAll X.K H vs ds → Vals vs us → ∃ as, ReadsAll s.heap us ds as ∧ sysModules ∉ as
  | [], _, _, h, r => by
    cases h
    cases r
    exact ⟨_, ReadsAll.nil, by simp⟩
  | d :: ds, _, _, h, r => by
    cases h with
    | cons h1 h2 =>
      cases r with
      | cons r1 r2 =>
        obtain ⟨as, q1, n1⟩ := Tg.reads I d _ _ h1 r1
        obtain ⟨bs, q2, n2⟩ := Tg.readsAll I ds _ _ h2 r2
        exact ⟨_, ReadsAll.cons q1 q2, by simpa using ⟨n1, n2⟩⟩
theorem Tg.readsKv (I : Inv X pins σ H s) : ∀ (es : List (PyData × PyData)) (kvs : List (Key × V)) (vs : List (Key × Value)) (el : List DictEntry), TgKv X.K H kvs es → KV kvs vs → PySem.Pairs (mixKind X.prog X.w) el vs →
    ∃ as, ReadsAll s.heap (el.map (·.key)) (es.map (·.1)) [] ∧ ReadsAll s.heap (el.map (·.val)) (es.map (·.2)) as ∧ sysModules ∉ as
  | [], _, _, _, h, r, p => by
    cases h
    cases r
    cases p
    exact ⟨_, .nil, .nil, by simp⟩
  | (kd, e) :: es, _, _, _, h, r, p => by
    cases h with
    | cons h1 h2 =>
      cases r with
      | @cons _ qv _ _ r1 r2 =>
        obtain ⟨er, rx⟩ := r1
        cases p with
        | @cons en _ _ _ p1 p2 p3 =>
          obtain ⟨as, q1, n1⟩ := Tg.reads I e _ _ h1 rx
          obtain ⟨bs, k2, q2, n2⟩ := Tg.readsKv I es _ _ _ h2 r2 p3
          have er : _ = qv.1 := er
          dsimp only at er
          have rv : Reads s.heap en.val e as := by
            rw [p2]
            exact q1
          refine ⟨_, .cons (as := []) (bs := []) ?_ k2, .cons rv q2, by simpa using ⟨n1, n2⟩⟩
          show Reads s.heap en.key (keyD _) []
          rw [er]
          exact keyD_reads p1
end
end
theorem repD_kv {es : List (PyData × PyData)} {k m n : Nat} : (∀ p ∈ es, RepD p.1 k m ∧ RepD p.2 k n) → PyData.showableKv es = true ∧ PyData.depthKv es ≤ k ∧ PyData.leavesShortKv 400 es = true ∧ PyData.bulkKv es ≤ es.length * (m + n + 2) := by
  induction es with
  | nil => intro _; exact ⟨rfl, Nat.zero_le _, rfl, Nat.zero_le _⟩
  | cons p r ih =>
    intro h
    obtain ⟨h1, h3, h4, h5⟩ := ih fun x hx => h x (List.mem_cons_of_mem _ hx)
    obtain ⟨q1, q2⟩ := h p (List.mem_cons_self ..)
    obtain ⟨a, b⟩ := p
    dsimp only at q1 q2
    refine ⟨?_, ?_, ?_, ?_⟩
    · simp [PyData.showableKv, q1.sh, q2.sh, h1]
    · have := q1.dp
      have := q2.dp
      simp [PyData.depthKv]
      omega
    · simp [PyData.leavesShortKv, q1.lv, q2.lv, h4]
    · have := q1.bk
      have := q2.bk
      have e : (r.length + 1) * (m + n + 2) = r.length * (m + n + 2) + (m + n + 2) := Nat.succ_mul _ _
      simp only [PyData.bulkKv, List.length_cons]
      omega
theorem RepD.dct {es : List (PyData × PyData)} {k m n : Nat} (h : ∀ p ∈ es, RepD p.1 k m ∧ RepD p.2 k n) : RepD (.dict es) (k + 1) (es.length * (m + n + 2)) := by
  obtain ⟨h1, h3, h4, h5⟩ := repD_kv h
  exact ⟨by simpa only [PyData.showable] using h1, by simp only [PyData.depth]; omega, by simpa only [PyData.leavesShort] using h4, by simpa only [PyData.bulk] using h5⟩
theorem RepD.list {ds : List PyData} {k n : Nat} (h : ∀ d ∈ ds, RepD d k n) : RepD (.list ds) (k + 1) (ds.length * (n + 1)) := by
  obtain ⟨h1, h3, h4, h5⟩ := repD_all h
  exact ⟨by simpa only [PyData.showable] using h1, by simp only [PyData.depth]; omega, by simpa only [PyData.leavesShort] using h4, by simpa only [PyData.bulk] using h5⟩
/-- heaps that keep a thing's cells keep its data -/
structure Kps (K : PySem.W.Frag) (H H1 : Hp) : Prop where
  t : ∀ a xs, SqT K H a xs → SqT K H1 a xs
  l : ∀ a xs, SqL K H a xs → SqL K H1 a xs
  d : ∀ a kvs, H a = some (.dK kvs) → H1 a = some (.dK kvs)
theorem Kps.of_same {K : PySem.W.Frag} {H H1 : Hp} (s : Same H H1) : Kps K H H1 := ⟨fun _ _ q => same_seqT s q, fun _ _ q => same_seqL s q, fun _ _ q => s _ _ q⟩
mutual
theorem tg_keep {K : PySem.W.Frag} {H H1 : Hp} (s : Kps K H H1) : ∀ (d : PyData) (v : V), Tg K H v d → Tg K H1 v d
  | .none, _, h => by cases h; exact .non
  | .bool b, _, h => by cases h; exact .bl b
  | .int i, _, h => by cases h; exact .int i
  | .str x, _, h => by cases h; exact .str x
  | .list ds, _, h => by
    cases h with
    | lst hs n ha => exact .lst (s.l _ _ hs) n (tgAll_keep s ds _ ha)
  | .tuple ds, _, h => by
    cases h with
    | tup hs ha => exact .tup (s.t _ _ hs) (tgAll_keep s ds _ ha)
  | .dict es, _, h => by
    cases h with
    | dct ha hk => exact .dct (s.d _ _ ha) (tgKv_keep s es _ hk)
theorem tgAll_keep {K : PySem.W.Frag} {H H1 : Hp} (s : Kps K H H1) : ∀ (ds : List PyData) (vs : List V), TgAll K H vs ds → TgAll K H1 vs ds
  | [], _, h => by cases h; exact .nil
  | d :: ds, _, h => by
    cases h with
    | cons h1 h2 => exact .cons (tg_keep s d _ h1) (tgAll_keep s ds _ h2)
theorem tgKv_keep {K : PySem.W.Frag} {H H1 : Hp} (s : Kps K H H1) : ∀ (es : List (PyData × PyData)) (kvs : List (Key × V)), TgKv K H kvs es → TgKv K H1 kvs es
  | [], _, h => by cases h; exact .nil
  | (_, e) :: es, _, h => by
    cases h with
    | cons h1 h2 => exact .cons (tg_keep s e _ h1) (tgKv_keep s es _ h2)
end
/-- data, of any make -/
inductive Tz (K : PySem.W.Frag) (H : Hp) : V → PyData → Prop
  | dp {v : V} {d : PyData} {k n : Nat} : Dp K H v d → RepOk d k n → k ≤ 40 → n ≤ 40000 → Tz K H v d
  | tg {a : Addr} {d : PyData} {k n : Nat} : Tg K H (.ref a) d → RepD d k n → k ≤ 40 → n ≤ 40000 → Tz K H (.ref a) d
def rRepr6 (K : PySem.W.Frag) : List V → Hp → VK → Prop := fun xs H Q => ∃ v d, xs = [v] ∧ Tz K H v d ∧ Q (.str d.shown) H
theorem call_repr6 {X : Cx} (hG : X.A.guards = some []) (hu : X.A.units + 64 < cLine) : CallR X (.builtin "repr") (rRepr6 X.K) := by
  intro pins s σ H xs us Q I r h
  obtain ⟨v, d, e, hd, q⟩ := h
  cases hd with
  | dp h1 h2 h3 h4 => exact call_reprD hG hu pins s σ H xs us Q I r ⟨v, d, _, _, e, h1, h2, h3, h4, q⟩
  | @tg a _ k n h1 h2 h3 h4 =>
    subst e
    rw [Vals.ref1 r]
    obtain ⟨as, rd, nos⟩ := Tg.reads I d (.ref a) (.ref a) h1 rfl
    have fin : ∀ (h' : Heap) (u : Tok) (tk : Nat), (∀ b o, s.heap.get? b = some o → h'.get? b = some o) → EP X pins σ Q (.str d.shown u) { s with heap := h', toks := tk } :=
      fun h' u tk hk => ⟨.str d.shown, H, I.un (Un.kept hk) (I.hok.kept hk), ⟨u, rfl⟩, q⟩
    have dp := h2.dp
    exact repr_of_reads' rd h2.sh (fun _ => nos) hG (by omega) (fun _ _ z => z) fin (h2.fits h4)
theorem k_repr6 (K : PySem.W.Frag) {X : Cx} (hG : X.A.guards = some []) (hu : X.A.units + 64 < cLine) (h : X.K = K := by rfl) : CallR X (.builtin "repr") (rRepr6 K) := by
  subst h
  exact call_repr6 hG hu
/-! ### a new list, and where it does not lie -/
def tLstB (t : TA) : TE := fun σ H Q => t σ H fun vs H1 => vs.length ≤ sizeLine ∧ ∀ p, H1 p = none → p ≠ sysModules → Q (.ref p) (upd H1 p (.lst vs))
theorem pe_lstB {X : Cx} {es : List Expr} {t : TA} {pos : Pos} (h : PA X es t) : PE X (.List es pos) (tLstB t) := by
  refine ⟨fun pins s σ H Q I hq => ?_⟩
  refine wpAny_List_spliced (thn (h.run pos pins s σ H (fun xs H1 => xs.length ≤ sizeLine ∧ ∀ p, H1 p = none → p ≠ sysModules → Q (.ref p) (upd H1 p (.lst xs))) I hq) fun us s1 ⟨xs, H1, I1, r, z, q⟩ => ?_)
  refine ⟨by rw [← r.length]; exact z, ?_⟩
  have hf := I1.hok.fresh (Nat.le_refl s1.heap.objs.size)
  exact ⟨.ref s1.heap.objs.size, upd H1 s1.heap.objs.size (.lst xs), I1.laid (t' := s1.toks) (fun b u e => Heap.get?_push_of_some { cls := .type "list", data := .seq us.toArray } e) (Nat.le_refl _)
    ⟨z, us, 0, r, Heap.get?_push_size s1.heap rfl⟩, rfl, q _ hf (Nat.ne_of_gt I1.big)⟩
end RO

namespace RO
open PySem PySem.Spec PyProof.Rows L2

/-! ### a list, whatever it holds, beside the empty one -/
def rEqE (K : PySem.W.Frag) : R2 := fun x y H Q => ∃ a b xs, x = .ref a ∧ y = .ref b ∧ SqL K H a xs ∧ SqL K H b [] ∧ Q (.bl xs.isEmpty) H
theorem k_eqE (K : PySem.W.Frag) {X : Cx} (hu : X.A.units + 64 < cLine) (h : X.K = K := by rfl) : OpR X (compareOp .Eq) (rEqE K) := by
  subst h
  intro pins s σ H x y v u Q I rx ry h
  obtain ⟨a, b, xs, rfl, rfl, h1, h2, q⟩ := h
  cases xs with
  | nil =>
    refine k_eqD (K := X.K) hu rfl pins s σ H _ _ v u Q I rx ry ⟨.list [], .list [], .lst h1 .nil, .lst h2 .nil, rfl, rfl, ?_⟩
    exact q
  | cons x xs =>
    cases rx
    cases ry
    obtain ⟨i1, r1, p1, _⟩ := I.list h1
    obtain ⟨i2, r2, p2, _⟩ := I.list h2
    cases r2
    have l1 := r1.length
    refine SeqAt.eq_list_lengthsAt p1.isList p2.isList ?_ (by omega) ⟨.bl false, H, I, rfl, q⟩
    rw [List.size_toArray, ← l1]
    rfl
end RO

namespace RO
open PySem PySem.Spec PyProof.Rows L2

/-! ### a lambda as a key: a call of it -/
section
variable {prog : Program} {w : World} {A : Around} {s : Shared}
theorem key_call {f : Addr} {qual : Str} {params : Arguments} {body : Expr} {scope : Scope} {cl : List (Str × Addr)} {pm ctv v : Value} {c' : Addr} {x : Str} {k : PyData} (room : A.depth < recursionLimit) (lim : s.heap.NoLimit)
    (ho : s.heap.get? f = some (PySem.W.kla_obj "<lambda>" qual params body scope cl pm c' ctv)) (hc : s.heap.CodeRec (.ref c') qual) (kind : scope.kind = .function) (co : scope.isCoroutine = false) (gen : scope.isGenerator = false)
    (nocell : ∀ y ∈ scope.names, y.2 ≠ .cell) (hx : scope.names.lookup x = some .local) (hb : bindArgs (PySem.W.kla_fn "<lambda>" qual params body scope cl pm (.ref c') ctv) ⟨[v], []⟩ = pure [(x, v)])
    (run : ∀ (L : Addr) (h1 : Heap) (tk : Nat), (∀ b o, s.heap.get? b = some o → h1.get? b = some o) → (h1.Ns L fun y => ([(x, v)] : List (Str × Value)).reverse.lookup y) →
      wpAny (model prog w) (A.deeper (PySem.W.envX qual scope L f (.ref c') cl)) (eval body (PySem.W.envX qual scope L f (.ref c') cl)) (PySem.W.KeyPure k { s with heap := h1, toks := tk }) (fun _ _ => False) { s with heap := h1, toks := tk }) :
    wpAny (model prog w) A (call (.ref f) [v]) (PySem.W.KeyPure k s) (fun _ _ => False) s := by
  refine wpAny_call (PySem.W.kla_callFunE room ho rfl co gen rfl hc ?_)
  rw [hb]
  refine wpAny_pure (wpAny_newFunctionEnv nocell (fun y hy => ?_) (fun h1 hn hs => ⟨lim.fresh _ hs, ?_⟩) kind)
  · obtain rfl : y = (x, v) := List.mem_singleton.mp hy
    exact hx
  · have old : ∀ b o, s.heap.get? b = some o → h1.get? b = some o := fun b o e => hs.extBut b o (Nat.ne_of_lt (Heap.lt_size e)) (Heap.get?_push_of_some _ e)
    show codeAny _ _ (.expr body (PySem.W.envX qual scope s.heap.objs.size f (.ref c') cl)) _ _
    refine PySem.W.kla_codeExpr (wpAny_mono (run _ h1 _ old hn) (fun u s' q => ?_) fun _ _ q => q.elim)
    obtain ⟨h', tk, e, kp, r⟩ := q
    subst e
    exact ⟨h', tk, rfl, fun b o z => kp b o (old b o z), r⟩
/-- the key x[0] -/
theorem key_first {env : Env} {x : Str} {L t : Addr} {h1 : Heap} {tk : Nat} {its : List Value} {k : Int} {u : Tok} {p1 p2 p3 : Pos} {j : Nat} (kind : env.scope.kind = .function) (hx : env.kindOf x = some .local) (hL : env.locals = L)
    (hn : h1.Ns L fun y => ([(x, (Value.ref t))] : List (Str × Value)).reverse.lookup y) (hT : IsTup h1 t its.toArray) (h0 : its[0]? = some (.int k u)) (hd : (x == ("__debug__" : Str)) = false) :
    wpAny (model prog w) A (eval (.Subscript (.Name x p1) (.Constant (.int 0) j p2) p3) env) (PySem.W.KeyPure (.int k) { s with heap := h1, toks := tk }) (fun _ _ => False) { s with heap := h1, toks := tk } := by
  have hm : ([(x, (Value.ref t))] : List (Str × Value)).reverse.lookup x = some (.ref t) := by
    show List.lookup x [(x, Value.ref t)] = _
    simp [List.lookup]
  subst hL
  refine Subscript_ (wpAny_Name (wpAny_loadName_local kind hx hn hm ?_) hd)
  refine wpAny_Constant_int ?_
  have hlen : 0 < its.length := by
    rcases Nat.lt_or_ge 0 its.length with z | z
    · exact z
    · rw [List.getElem?_eq_none (by omega)] at h0
      cases h0
  refine subscriptTail_builtinR (x := .int k u) hT.typeIs slot_tuple_getitem.lookup (getItem_tuple (j := 0) hT (by decide) (by decide) ?_ (by simpa using h0) ⟨rfl, ?_⟩) rfl
  · unfold seqIndex?
    simp [hlen]
  · exact ⟨h1, tk + 1, rfl, fun _ _ z => z, .int _ _⟩
end

/-! ### sorted(e, key=lambda x: x[0]) -/
open LamX
def byFst (bs : List (Addr × Int)) : List (Addr × Int) := bs.mergeSort fun a b => decide (a.2 ≤ b.2)
def tSortR (K : PySem.W.Frag) (T : List (Addr × Str)) (te : TE) : TE := fun σ H Q => te σ H fun v H1 => ∃ (a : Addr) (bs : List (Addr × Int)), v = .ref a ∧ SqL K H1 a (bs.map fun b => V.ref b.1) ∧ (∀ b ∈ bs, ∃ rest, SqT K H1 b.1 (V.int b.2 :: rest)) ∧ Tabs T H1 ∧
  ∀ H2, ExtN H1 H2 → Tabs T H2 → ∀ l, H2 l = none → Q (.ref l) (upd H2 l (.lst ((byFst bs).map fun b => V.ref b.1)))
theorem each_vals {R : Value → Addr × Int → Prop} (hR : ∀ v b, R v b → v = .ref b.1) : ∀ {out : List Value} {bs : List (Addr × Int)}, PySem.W.EachIs R out bs → Vals (bs.map fun b => V.ref b.1) out
  | _, _, .nil => .nil
  | _, _, .cons r h => .cons (hR _ _ r) (each_vals hR h)
theorem vals_each {R : Value → Addr × Int → Prop} : ∀ {bs : List (Addr × Int)} {vs : List Value}, Vals (bs.map fun b => V.ref b.1) vs → (∀ b ∈ bs, R (.ref b.1) b) → PySem.W.EachIs R vs bs
  | [], _, h, _ => by
    cases h
    exact .nil
  | b :: bs, _, h, g => by
    cases h with
    | cons h1 h2 =>
      obtain rfl := h1
      exact .cons (g b (List.mem_cons_self ..)) (vals_each h2 fun y hy => g y (List.mem_cons_of_mem _ hy))
section
variable {X : Cx}
theorem pe_sortR (K : PySem.W.Frag) {T : List (Addr × Str)} {c P : Addr} {e : Expr} {te : TE} {params : Arguments} {scope : Scope} {x : Str} {k j : Nat} {p p1 p2 p3 lpos kpos pos : Pos}
    (hg : Gl X "sorted") (hm : X.mg "sorted" = none) (TB : TabB X.base X.mg c P) (hcode : X.env.code = .ref c) (hT : (P, X.env.qual ++ "<lambda>") ∈ T) (hu : ∀ q ∈ T, q.1 = P → q.2 = X.env.qual ++ "<lambda>") (hr : Room (k + 2) X.A) (he : PE X e te) (hK : X.K = K := by rfl) (hs : starEach [e] X.env = (false, eval e X.env) :: starEach [] X.env := by rfl)
    (hdef : defaultsOf params X.env = ([], []) := by rfl) (kind : scope.kind = .function := by rfl) (co : scope.isCoroutine = false := by rfl) (gen : scope.isGenerator = false := by rfl)
    (nocell : ∀ y ∈ scope.names, y.2 ≠ .cell := by decide) (nofree : ∀ y ∈ scope.names, y.2 ≠ .free := by decide) (hx : scope.names.lookup x = some .local := by rfl) (hd : (x == ("__debug__" : Str)) = false := by decide)
    (hb : ∀ (q : Str) (cl : List (Str × Addr)) (pm cv ctv v : Value), bindArgs (PySem.W.kla_fn "<lambda>" q params (.Subscript (.Name x p1) (.Constant (.int 0) j p2) p3) scope cl pm cv ctv) ⟨[v], []⟩ = pure [(x, v)] := by intros; rfl) :
    PE X (.Call (.Name "sorted" p) [e] [⟨some "key", .Lambda params (.Subscript (.Name x p1) (.Constant (.int 0) j p2) p3) scope lpos, kpos⟩] pos) (tSortR K T te) := by
  subst hK
  refine ⟨fun pins s σ H Q I h => ?_⟩
  refine wpAny_Call_Name_kw (ld_blt I hg hm rfl ?_)
  refine PyProof.Rows.callWith_kw (thn ((pa_cons he pa_nil hs).run pos pins s σ H (fun vs H1 => match vs with
    | [v] => ∃ (a : Addr) (bs : List (Addr × Int)), v = .ref a ∧ SqL X.K H1 a (bs.map fun b => V.ref b.1) ∧ (∀ b ∈ bs, ∃ rest, SqT X.K H1 b.1 (V.int b.2 :: rest)) ∧ Tabs T H1 ∧ ∀ H2, ExtN H1 H2 → Tabs T H2 → ∀ l, H2 l = none → Q (.ref l) (upd H2 l (.lst ((byFst bs).map fun b => V.ref b.1)))
    | _ => False) I h) fun us s1 q1 => ?_) (by rw [hs]; rfl) (by rw [hs]; rfl) rfl rfl
  obtain ⟨vs, H1, I1, r1, q1⟩ := q1
  match vs, r1, q1 with
  | [v], r1, ⟨a, bs, ev, hL, hTs, tabs, q⟩ =>
    subst ev
    rw [Vals.ref1 r1]
    show wpAny _ _ (evalAll [(do let v ← eval (.Lambda params (.Subscript (.Name x p1) (.Constant (.int 0) j p2) p3) scope lpos) X.env; standAt pos; pure v)]) _ _ s1
    refine wpAny_evalAll_cons (wpAny_bind (lam_make2 I1 TB hcode hT hu tabs hdef (fun y hy z => (nofree y hy z).elim) fun f c' pm ctv H2 s2 I2 ext tabs2 hf hfn hfr hc => wpAny_bind (wpAny_standAt (wpAny_pure (wpAny_evalAll_nil ?_)))))
    show wpAny _ _ (call (.builtin "sorted") [.ref a] [(Str.ofString "key", .ref f)]) _ _ s2
    -- the list, the tuples in it
    have hL2 : SqL X.K H2 a (bs.map fun b => V.ref b.1) := by
      rcases hL with (z | ⟨o, z⟩) | z
      · exact .inl (.inl (ext _ _ z (fun ps => nofun)))
      · exact .inl (.inr ⟨o, ext _ _ z (fun ps => nofun)⟩)
      · exact .inr z
    have hT2 : ∀ b ∈ bs, ∃ (its : List Value) (u : Tok), IsTup s2.heap b.1 its.toArray ∧ its[0]? = some (.int b.2 u) := fun b hb => by
      obtain ⟨rest, z⟩ := hTs b hb
      have z2 : SqT X.K H2 b.1 (V.int b.2 :: rest) := by
        rcases z with (z | ⟨o, z⟩) | z
        · exact .inl (.inl (ext _ _ z (fun ps => nofun)))
        · exact .inl (.inr ⟨o, ext _ _ z (fun ps => nofun)⟩)
        · exact .inr z
      obtain ⟨its, r, ht, _⟩ := I2.tuple z2
      cases r with
      | cons r0 _ =>
        obtain ⟨u, rfl⟩ := r0
        exact ⟨_, u, ht, rfl⟩
    obtain ⟨its, r, hl, hz⟩ := I2.list hL2
    have len : its.length = bs.length := by
      have := r.length
      rw [List.length_map] at this
      omega
    have hz2 : bs.length ≤ sizeLine := by
      rw [List.length_map] at hz
      exact hz
    have ee := vals_each (R := fun v b => v = .ref b.1 ∧ b ∈ bs) r fun b hb => ⟨rfl, hb⟩
    have un := hr.un
    have dp := hr.dp
    refine PySem.W.sorted_key_data (b := false) (fun b : Addr × Int => .int b.2) hl.isList ee (PySem.W.AllAlike.of fun _ _ => rfl) (PySem.W.Sortable.others fun b => ⟨nofun, fun _ => nofun⟩) hz2 (fun b _ => ?_) (PyProof.Rows.ksk_s1 _ _) (fun _ => PyProof.Rows.ksk_l1 _ _) (fun _ => PyProof.Rows.ksk_t1 _ _)
      (fun v b hv hb2 h tk kp => ?_) fun out cc h' tk kp fr hD ll eo => ?_
    · show X.A.units + 2 + 0 < cLine
      omega
    · obtain ⟨rfl, _⟩ := hv
      obtain ⟨it, u, ht, h0⟩ := hT2 b hb2
      obtain ⟨oc, vs', t, hoc, hdc, hvc⟩ := (I2.hok c' _ hc).1
      have K1 : ∀ b o, X.base.get? b = some o → h.get? b = some o := fun b o z => kp b o (I2.bk b o z)
      refine key_call (s := { s2 with heap := h, toks := tk }) (x := x) (by show X.A.depth < _; omega) (I2.ok.mod.nolimit.keeps K1) (kp _ _ hf) ⟨c', oc, vs', t, rfl, kp _ _ hoc, hdc, hvc⟩ kind co gen nocell hx (hb _ _ _ _ _ _) fun L h1 tk2 kp2 hn => ?_
      exact key_first (s := { s2 with heap := h, toks := tk }) kind hx rfl hn (ht.keeps fun b o z => kp2 b o (kp b o z)) h0 hd
    · have eo' := eo
      rw [PySem.W.dataLe_int] at eo'
      refine ⟨.ref (s2.heap.objs.size + 1), _, I2.laid (t' := tk) (o := .lst ((byFst bs).map fun b => V.ref b.1)) kp (Nat.le_succ _) ?_, rfl, q H2 ext tabs2 _ (I2.hok.fresh (Nat.le_succ _))⟩
      refine ⟨?_, out, cc, each_vals (fun _ _ z => z.1) eo', hD⟩
      rw [List.length_map]
      unfold byFst
      rw [List.length_mergeSort]
      exact hz2
  | [], _, q => exact q.elim
  | _ :: _ :: _, _, q => exact q.elim
end
end RO

namespace RO
open PySem PySem.Spec PyProof.Rows L2 LamX

/-! ### what is kept where lambdas are made -/
def ButN (p : Addr) (H H' : Hp) : Prop := ∀ b o, b ≠ p → H b = some o → (∀ ps, o ≠ .tbl ps) → H' b = some o
section
variable {K : PySem.W.Frag} {H H0 H1 H2 : Hp} {p q a c l : Addr} {o : HO} {xs ys : List V} {n m : Nat} {T : List (Addr × Str)}
theorem ButN.of_but (h : But p H H1) : ButN p H H1 := fun b u n e _ => h b u n e
theorem ButN.of_same (h : Same H H1) : ButN p H H1 := fun b u _ e _ => h b u e
theorem ButN.of_ext (h : ExtN H H1) : ButN p H H1 := fun b u _ e z => h b u e z
theorem ButN.trans (h : ButN p H H1) (h2 : ButN p H1 H2) : ButN p H H2 := fun b u n e z => h2 b u n (h b u n e z) z
theorem ButN.own (h : ButN p H0 H) (hl : H0 l = none) : ButN p H0 (upd H l o) := fun b u n e z => (upd_ne (ne_of_none e hl)).trans (h b u n e z)
theorem ButN.rd {u : HO} (h : ButN p H H1) (n : a ≠ p) (z : ∀ ps, u ≠ .tbl ps) (r : Rd H a u) : Rd H1 a u := by
  rcases r with r | ⟨o, r⟩
  · exact .inl (h _ _ n r z)
  · exact .inr ⟨o, h _ _ n r fun _ => nofun⟩
theorem ButN.seqL (h : ButN p H H1) (n : a ≠ p) (r : SqL K H a xs) : SqL K H1 a xs := r.imp (h.rd n fun _ => nofun) id
theorem ButN.seqT (h : ButN p H H1) (n : a ≠ p) (r : SqT K H a xs) : SqT K H1 a xs := r.imp (h.rd n fun _ => nofun) id
theorem ButN.seqT' (h : ButN p H H1) (hp : H p = some (.lst ys)) (r : SqT K H a xs) : SqT K H1 a xs := by
  rcases r with r | r
  · have n : a ≠ p := by
      rcases r with r | ⟨o, r⟩
      · exact ne_of r hp nofun
      · exact ne_of r hp nofun
    exact .inl (h.rd n (fun _ => nofun) r)
  · exact .inr r
/-- tables stay tables -/
theorem tabs_same (t : Tabs T H) (h : Same H H1) : Tabs T H1 := t.ext h
theorem tabS_moved {P : Addr} {t : Str} (h : TabS H P t) (f : ∀ b o, H b = some o → (∀ ys, o ≠ .lst ys) → H1 b = some o) : TabS H1 P t := by
  obtain ⟨ps, e1, e2, e3⟩ := h
  refine ⟨ps, f _ _ e1 fun _ => nofun, e2, fun pos cv hc => ?_⟩
  obtain ⟨d, d1, d2⟩ := e3 pos cv hc
  exact ⟨d, d1, f _ _ d2 fun _ z => by unfold CodeO at z; cases z⟩
theorem tabs_but (t : Tabs T H) (hp : H p = some (.lst ys)) (h : But p H H1) : Tabs T H1 := fun r hr => tabS_moved (t r hr) fun b o e n => h b o (fun z => n ys (by rw [z, hp] at e; exact (Option.some.inj e).symm)) e
theorem tabs_set (t : Tabs T H) (hp : H p = some (.lst ys)) : Tabs T (upd H p o) := tabs_but t hp But.put
theorem tabs_new (t : Tabs T H) (hq : H q = none) : Tabs T (upd H q o) := t.ext fun b u e => (upd_ne (ne_of_none e hq)).trans e
/-- as Go, tables beside -/
structure GoN (K : PySem.W.Frag) (T : List (Addr × Str)) (p c : Addr) (H0 : Hp) (n : Nat) (H : Hp) : Prop where
  but : ButN p H0 H
  pen : PenAt H p c n
  cel : Cells K H p c
  tab : Tabs T H
theorem Cells.butN (h : Cells K H p c) (b : ButN p H H1) : Cells K H1 p c := by
  obtain ⟨ne, ns, r, l⟩ := h
  exact ⟨ne, ns, b.seqL ne r, l⟩
theorem GoN.refl (h : PenAt H p c n) (hc : Cells K H p c) (t : Tabs T H) : GoN K T p c H n H := ⟨.of_same (Same.refl _), h, hc, t⟩
theorem GoN.self (g : GoN K T p c H0 n H) : GoN K T p c H n H := ⟨.of_same (Same.refl _), g.pen, g.cel, g.tab⟩
theorem GoN.go0 (g : GoN K T p c H0 n H) : Go K p c H n H := Go.refl g.pen g.cel
theorem GoN.mono (g : GoN K T p c H0 n H) (hm : n ≤ m) : GoN K T p c H0 m H := ⟨g.but, g.pen.mono hm, g.cel, g.tab⟩
theorem GoN.trans (g : GoN K T p c H0 n H1) (g2 : GoN K T p c H1 m H2) : GoN K T p c H0 m H2 := ⟨g.but.trans g2.but, g2.pen, g2.cel, g2.tab⟩
theorem GoN.of_go (g : Go K p c H0 n H) (hp : H0 p = some (.lst ys)) (t : Tabs T H0) : GoN K T p c H0 n H := ⟨.of_but g.but, g.pen, g.cel, tabs_but t hp g.but⟩
theorem GoN.go (g : GoN K T p c H0 n H1) (g2 : Go K p c H1 m H2) : GoN K T p c H0 m H2 := by
  obtain ⟨_, _, e, _⟩ := id g.pen
  exact ⟨g.but.trans (.of_but g2.but), g2.pen, g2.cel, tabs_but g.tab e g2.but⟩
theorem GoN.same (g : GoN K T p c H0 n H) (h : Same H H1) : GoN K T p c H0 n H1 := by
  obtain ⟨i, j, e, r⟩ := id g.pen
  exact ⟨g.but.trans (.of_same h), ⟨i, j, h _ _ e, r⟩, g.cel.but (But.of_same h), g.tab.ext h⟩
theorem GoN.ext (g : GoN K T p c H0 n H) (h : ExtN H H1) (t : Tabs T H1) : GoN K T p c H0 n H1 := by
  obtain ⟨i, j, e, r⟩ := id g.pen
  exact ⟨g.but.trans (.of_ext h), ⟨i, j, h _ _ e (fun _ => nofun), r⟩, g.cel.butN (.of_ext h), t⟩
theorem GoN.tracked (g : GoN K T p c H0 n H) : ∃ ys, H p = some (.lst ys) := by
  obtain ⟨_, _, e, _⟩ := g.pen
  exact ⟨_, e⟩
theorem GoN.ne_new (g : GoN K T p c H0 n H) (hq : H q = none) : p ≠ q := by
  obtain ⟨o, e⟩ := g.tracked
  exact ne_of_none e hq
theorem GoN.new (g : GoN K T p c H0 n H) (hq : H q = none) : GoN K T p c H0 n (upd H q o) := g.same (same_new (Same.refl _) hq)
/-- an own list is written: it was free at the beginning -/
theorem GoN.own (g : GoN K T p c H0 n H) (hl : H0 l = none) (hy : H l = some (.lst ys)) (hp : l ≠ p) (hc : Cells K H0 p c) : GoN K T p c H0 n (upd H l o) := by
  obtain ⟨i, j, e, r⟩ := id g.pen
  exact ⟨g.but.own hl, ⟨i, j, (upd_ne (Ne.symm hp)).trans e, r⟩, hc.butN (g.but.own hl), tabs_set g.tab hy⟩
end
theorem RowsAt.butN {K : PySem.W.Frag} {H H1 : Hp} {p : Addr} {ys : List V} {as : List Addr} {rs : List Row} (h : RowsAt K H as rs) (hp : H p = some (.lst ys)) (b : ButN p H H1) : RowsAt K H1 as rs := h.imp fun _ _ q => b.seqT' hp q
theorem LogAt.butN {K : PySem.W.Frag} {H H1 : Hp} {p t : Addr} {ys : List V} {rs : List Row} (h : LogAt K H t rs) (hp : H p = some (.lst ys)) (b : ButN p H H1) : LogAt K H1 t rs := by
  obtain ⟨as, h1, h2⟩ := h
  exact ⟨as, b.seqT' hp h1, h2.butN hp b⟩

/-! ### a def whose code object is known -/
section
variable {P : Program} {w : World} {K : PySem.W.Frag} {mg : Str → Option Value} {base : Heap}
theorem okC {x qual : Str} {st : Stmt} {f cc : Addr} {fd : FuncData} {N ps : List Str} {k : Nat} {sp : Sp} (F : Fun K x qual st f fd) (hcc : fd.code = .ref cc) (S : FnScope N ps (defScope st)) (len : ∀ vs H Q E, sp vs H Q E → vs.length = ps.length)
    (hb : ∀ (A : Around) (outer : List Env) (s : Shared) (H : Hp) (vs : List V) (Q : VK) (E : XK), Room k (A.deeper (envOfC qual (defScope st) s.heap.objs.size f (.ref cc))) → sp vs H Q E →
      ∃ t, PSs (cxOf CX0 P w K mg base N qual (defScope st) f (.ref cc) A outer s H E).nox (defBody st) t ∧ t { nx := fun _ H' => Q .non H', rt := Q } (start N vs) H) : FnOk P w K mg base CX0 (k + 1) f fd ps sp := by
  obtain ⟨oc, od, kV, doc, pm, an, cdv, ct, osl, e, lk, hcd⟩ := F.ex
  subst e
  have e2 : cdv = .ref cc := hcc
  subst e2
  refine fn_of lk hcd S len fun A out s H vs Q E hr hs => ?_
  obtain ⟨t, h, q⟩ := hb A out s H vs Q E hr hs
  exact ⟨t, h.nox, q⟩
end

/-! ### the law's end, tables of code objects beside the script -/
/-- the table of a code object -/
def tabOf (K : PySem.W.Frag) (c : Addr) : Addr := match K.lookup c with
  | some ob => (match ob.data with
    | .fields vs => (match (vs[11]? : Option Value) with
      | some (.ref P) => P
      | _ => 0)
    | _ => 0)
  | none => 0
def scriptT (K : PySem.W.Frag) (Ps : List Addr) (a : Addr) (ob : Obj) (ns : List Int) : Hp := fun b => if b ∈ Ps then some (.tbl #[]) else scriptH K a ob ns b
structure TabsOk (K : PySem.W.Frag) (h : Heap) (cs : List Addr) : Prop where
  tab : ∀ c ∈ cs, h.get? (tabOf K c) = some { cls := .none, data := .fields #[] }
  out : ∀ c ∈ cs, K.lookup (tabOf K c) = none
  code : ∀ c ∈ cs, PySem.W.CodeHd h c (tabOf K c)
theorem law_runsT {P : Program} {w : World} {K : PySem.W.Frag} {mg mb : Str → Option Value} {k : Nat} {fa a : Addr} {cs : List Addr} {fd : FuncData} {x : Str} {sp : Sp} {s1 : Shared} {vs : List Value} {ns : List Int}
    (hK : K.In s1.heap) (hm : s1.heap.Ns mainGlobals mg) (hb : s1.heap.Ns builtinsNs mb) (hbb : ∀ y : Str, y ≠ "__name__" → mb y = bootBuiltins y) (hL : s1.heap.NoLimit) (hgn : s1.gens = #[])
    (TO : TabsOk K s1.heap cs) (hbm : ∃ (bm : Addr) (ob : Obj), mg "__builtins__" = some (.ref bm) ∧ bm ≠ builtinsNs ∧ s1.heap.get? bm = some ob ∧ ob.cls = .type "module" ∧ ob.dict = some builtinsNs ∧ ob.data = .plain)
    (ha : s1.heap.get? a = some { cls := .type "list", data := .seq vs.toArray }) (hi : IntsAre vs ns) (hn : ns.length ≤ sizeLine) (hr : Room k callerA)
    (F : ∀ base : Heap, K.In base → base.Ns mainGlobals mg → (∀ c ∈ cs, TabB base mg c (tabOf K c)) → GOk P w K mg base CX0 k fa fd [x] sp) (hbd : ∀ (s : Shared) (u : Value), BindsTo s fd ⟨[u], []⟩ [(x, u)])
    (hsp : ∀ H : Hp, (∀ c ∈ cs, H (tabOf K c) = some (.tbl #[])) → SqL K H a (ns.map V.int) → sp [.ref a] H (fun v _ => v = .bl true) fun _ _ _ => False) :
    codeAny (model P w) callerA (.call (.ref fa) ⟨[.ref a], []⟩) (fun r s' => r = .ok (.ret (.bool true)) ∧ OldK s1.heap s'.heap ∧ s'.os = s1.os ∧ AllBare s'.gens) s1 := by
  let ob : Obj := { cls := .type "list", data := .seq vs.toArray }
  let Ps : List Addr := cs.map (tabOf K)
  let H : Hp := scriptT K Ps a ob ns
  have inP : ∀ b ∈ Ps, ∃ c ∈ cs, tabOf K c = b := fun b hb => by
    obtain ⟨c, hc, e⟩ := List.mem_map.mp hb
    exact ⟨c, hc, e⟩
  have tabP : ∀ b ∈ Ps, s1.heap.get? b = some { cls := .none, data := .fields #[] } := fun b hb => by
    obtain ⟨c, hc, e⟩ := inP b hb
    rw [← e]
    exact TO.tab c hc
  have aP : a ∉ Ps := fun z => by
    have q := tabP a z
    rw [ha] at q
    cases q
  have cases3 : ∀ b u, H b = some u → (b ∈ Ps ∧ u = .tbl #[]) ∨ (b = a ∧ K.lookup a = none ∧ u = .frz ob (.lst (ns.map V.int))) := by
    intro b u z
    by_cases hb : b ∈ Ps
    · have z2 : (if b ∈ Ps then some (HO.tbl #[]) else scriptH K a ob ns b) = some u := z
      rw [if_pos hb] at z2
      exact .inl ⟨hb, (Option.some.inj z2).symm⟩
    · have z2 : (if b ∈ Ps then some (HO.tbl #[]) else scriptH K a ob ns b) = some u := z
      rw [if_neg hb] at z2
      by_cases c : b = a ∧ K.lookup a = none
      · have z3 : (if b = a ∧ K.lookup a = none then some (HO.frz ob (.lst (ns.map V.int))) else none) = some u := z2
        rw [if_pos c] at z3
        exact .inr ⟨c.1, c.2, (Option.some.inj z3).symm⟩
      · have z3 : (if b = a ∧ K.lookup a = none then some (HO.frz ob (.lst (ns.map V.int))) else none) = some u := z2
        rw [if_neg c] at z3
        cases z3
  have atP : ∀ b ∈ Ps, H b = some (.tbl #[]) := fun b hb => (if_pos hb : (if b ∈ Ps then some (HO.tbl #[]) else scriptH K a ob ns b) = _)
  have rv := vals_ints hi
  have sizes : vs.length = ns.length := hi.length
  have hS : SqL K H a (ns.map V.int) := by
    cases z : K.lookup a with
    | some o =>
      have e := hK a o z
      rw [ha] at e
      cases e
      exact Or.inr ⟨_, vs.toArray, _, z, rfl, rfl, rfl, by rw [List.size_toArray, sizes]; exact hn, by simpa using rv⟩
    | none =>
      refine Or.inl (Or.inr ⟨ob, ?_⟩)
      show (if a ∈ Ps then some (HO.tbl #[]) else scriptH K a ob ns a) = _
      rw [if_neg aP]
      exact if_pos ⟨rfl, z⟩
  have hOk : HOk P w H s1.heap := fun b u z => by
    rcases cases3 b u z with ⟨h1, rfl⟩ | ⟨e1, _, e3⟩
    · exact tabP b h1
    · subst e1
      subst e3
      exact ⟨ha, by rw [List.length_map]; exact hn, vs, _, rv, ha⟩
  have stays : ∀ {b : Addr} {o : Obj}, s1.heap.get? b = some o → H b = none → (hidT s1.heap H).get? b = some o := fun e n => hidT_get e n
  -- what is neither a list nor an empty table is not tracked
  have plain : ∀ {b : Addr} {o : Obj}, s1.heap.get? b = some o → (∀ v n, o.data ≠ .seq v n) → o.data ≠ .fields #[] → H b = none := fun {b o} e n1 n2 => by
    cases q : H b with
    | none => rfl
    | some u =>
      rcases cases3 b u q with ⟨h1, _⟩ | ⟨e1, _, _⟩
      · rw [tabP b h1] at e
        cases e
        exact (n2 rfl).elim
      · rw [e1, ha] at e
        cases e
        exact (n1 _ _ rfl).elim
  have keptK : K.In (hidT s1.heap H) := by
    intro b o z
    refine stays (hK b o z) ?_
    cases q : H b with
    | none => rfl
    | some u =>
      rcases cases3 b u q with ⟨h1, _⟩ | ⟨e1, e2, _⟩
      · obtain ⟨c, hc, e⟩ := inP b h1
        rw [← e, TO.out c hc] at z
        cases z
      · rw [e1, e2] at z
        cases z
  have keptN : ∀ {b : Addr} {m : Str → Option Value}, s1.heap.Ns b m → (hidT s1.heap H).Ns b m := by
    rintro b m ⟨o, es, ep, e, d, r⟩
    refine ⟨o, es, ep, stays e (plain e (fun v n z => ?_) fun z => ?_), d, r⟩
    · rw [d] at z
      cases z
    · rw [d] at z
      cases z
  obtain ⟨mc, l1, l2⟩ := hL
  have TB : ∀ c ∈ cs, TabB (hidT s1.heap H) mg c (tabOf K c) := fun c hc => by
    have tp := TO.tab c hc
    obtain ⟨gm, es0, ep0, ge, gd, _⟩ := id hm
    constructor
    · obtain ⟨o, us, file, tf, flags, tg, inF, text, tt, e1, r1, r2, r3, rest⟩ := TO.code c hc
      refine ⟨o, us, file, tf, flags, tg, inF, text, tt, stays e1 (plain e1 (fun v n z => ?_) fun z => ?_), r1, r2, r3, rest⟩
      · rw [r2] at z
        cases z
      · rw [r2] at z
        cases z
        simp at r3
    · obtain ⟨bm, o2, b1, b2, b3, b4, b5, b6⟩ := hbm
      refine ⟨bm, o2, b1, b2, fun z => ?_, fun z => ?_, stays b3 (plain b3 (fun v n z => ?_) fun z => ?_), b4, b5, b6⟩
      · rw [z, ge] at b3
        cases b3
        rw [gd] at b6
        cases b6
      · rw [z, tp] at b3
        cases b3
        cases b6
      · rw [b6] at z
        cases z
      · rw [b6] at z
        cases z
    · intro z
      rw [z, tp] at ge
      cases ge
      cases gd
  have start0 : Env0 P w K mg (hidT s1.heap H) callerA [] s1 H :=
    { frames := rfl
      mod := ⟨keptK, keptN hm, ⟨mb, keptN hb, hbb⟩, ⟨mc, keptN l1, l2⟩⟩
      bs := fun _ _ z => of_hidT z
      bsz := Nat.le_of_eq (hidT_size _ _)
      funs := trivial
      frf := fun b z => absurd (show b ∈ ([] : List Addr) from z) (by simp)
      hok := hOk
      bare := .of_eq hgn }
  apply codeAny_mono ((F _ keptK (keptN hm) TB).runs callerA [] s1 H ⟨[.ref a], []⟩ [.ref a] [.ref a] _ _ hr rfl start0 (hbd s1 (.ref a)) (.cons rfl .nil) (hsp H (fun c hc => atP _ (List.mem_map.mpr ⟨c, hc, rfl⟩)) hS))
  intro r s' h
  match r, h with
  | .error _, h => exact h.elim
  | .ok .next, h => exact h.elim
  | .ok .brk, h => exact h.elim
  | .ok .cont, h => exact h.elim
  | .ok (.ret u), ⟨v, H', os, bare, un, hok', r', q⟩ =>
    have q' : v = .bl true := q
    subst q'
    have r2 : u = Value.bool true := r'
    subst r2
    have grown : ∀ c ∈ cs, ∃ more : Array Value, s'.heap.get? (tabOf K c) = some { cls := .none, data := .fields more } := fun c hc => by
      obtain ⟨more, z⟩ := un.tbls _ _ (atP _ (List.mem_map.mpr ⟨c, hc, rfl⟩))
      exact ⟨_, hok' _ _ z⟩
    have rest : ∀ b o, b ∉ Ps → s1.heap.get? b = some o → s'.heap.get? b = some o := fun b o nb e => by
      cases q : H b with
      | none => exact un.keep b o e q (by intro z; exact absurd (show b ∈ ([] : List Addr) from z) (by simp)) (by simp)
      | some t =>
        rcases cases3 b t q with ⟨h1, _⟩ | ⟨e1, e2, e3⟩
        · exact (nb h1).elim
        · have q2 := q
          rw [e3] at q2
          have f1 := (hOk b _ q2).1
          have f2 := (hok' b _ (un.frzs b ob _ q2)).1
          rw [e] at f1
          rw [f2, f1]
    refine ⟨rfl, ⟨fun b o e => ?_, fun b o e => ?_⟩, os, bare⟩
    · by_cases hb : b ∈ Ps
      · obtain ⟨c, hc, ec⟩ := inP b hb
        obtain ⟨more, hm2⟩ := grown c hc
        have e4 := TO.tab c hc
        rw [← ec] at e ⊢
        rw [e4] at e
        cases e
        exact .inr (.inl ⟨((TO.code c hc).tab e4).isCodeTable, rfl, #[], more, rfl, by rw [Array.empty_append]; exact hm2⟩)
      · exact .inl (rest b o hb e)
    · by_cases hb : b ∈ Ps
      · obtain ⟨c, hc, ec⟩ := inP b hb
        obtain ⟨more, hm2⟩ := grown c hc
        rw [← ec]
        exact ⟨_, hm2⟩
      · exact ⟨o, rest b o hb e⟩
/-- the goal behind the head, tables beside -/
theorem walk_GT {l : PySem.W.OpenLaw} {n k : Nat} {q : Program} {loose : List Str} {XP : (Str → Option Value) → Heap → Prop} {YP : World → Heap → Prop} {d : DefRec} {K : Params → PySem.W.Frag} {x : Str} {sp : PySem.W.Frag → List Addr → Sp}
    (hn : l.most = some n) (hn2 : n ≤ sizeLine) (hdf : d.params.defaults = []) (hr : Room k callerA) (hY : ∀ (w : World) (h : Heap), YP w h → (K w.params).In h)
    (F : ∀ (w : World) (mg : Str → Option Value) (fa : Addr) (h : Heap), YP w h → (K w.params).In h → h.Ns mainGlobals mg → mg d.name = some (.ref fa) →
      ∃ (fd : FuncData) (cs : List Addr), TabsOk (K w.params) h cs ∧ (∀ (s : Shared) (u : Value), BindsTo s fd ⟨[u], []⟩ [(x, u)]) ∧ ∀ base : Heap, (K w.params).In base → base.Ns mainGlobals mg → (∀ c ∈ cs, TabB base mg c (tabOf (K w.params) c)) →
        GOk l.prog w (K w.params) mg base CX0 k fa fd [x] (sp (K w.params) cs))
    (hsp : ∀ (K : PySem.W.Frag) (cs : List Addr) (H : Hp) (a : Addr) (ns : List Int), ns.length ≤ n → (∀ k ∈ ns, Builtin.Int.intBits k ≤ 1048576) → (∀ c ∈ cs, H (tabOf K c) = some (.tbl #[])) → SqL K H a (ns.map V.int) → sp K cs [.ref a] H (fun v _ => v = .bl true) fun _ _ _ => False) :
    PySem.W.WalkO q loose XP YP l.row.toRowW d [] (fun f vs => PySem.call f vs) := by
  apply Att.attach_callB hn hdf
  intro w s0 s1 mg mb fa o pm cd doc a vs ns G Y ho hd hcd hmg hobj hints hlen hbits hg
  have hK := hY w _ Y
  obtain ⟨fd, cs, TO, hb, hF⟩ := F w mg fa _ Y hK G.T.g hmg
  exact law_runsT hK G.T.g G.T.b G.T.builtins G.T.nolimit hg TO G.T.bmain hobj hints (Nat.le_trans hlen hn2) hr hF hb fun H hT hS => hsp (K w.params) cs H a ns hlen hbits hT hS
end RO

namespace RO
open PySem PySem.Spec PyProof.Rows L2

/-! ### things at places, one beside the other -/
inductive At2 {α : Type} (p : Addr → α → Prop) : List Addr → List α → Prop
  | nil : At2 p [] []
  | cons {a : Addr} {x : α} {as : List Addr} {xs : List α} : p a x → At2 p as xs → At2 p (a :: as) (x :: xs)
section
variable {α : Type} {p q : Addr → α → Prop} {as bs : List Addr} {xs ys : List α}
theorem At2.len (h : At2 p as xs) : as.length = xs.length := by
  induction h with
  | nil => rfl
  | cons _ _ ih => exact congrArg (· + 1) ih
theorem At2.imp (h : At2 p as xs) (f : ∀ a x, p a x → q a x) : At2 q as xs := by
  induction h with
  | nil => exact .nil
  | cons h1 _ ih => exact .cons (f _ _ h1) ih
theorem At2.get (h : At2 p as xs) : ∀ {i : Nat} {x : α}, xs[i]? = some x → ∃ a, as[i]? = some a ∧ p a x := by
  induction h with
  | nil => intro i x e; simp at e
  | cons h1 _ ih =>
    intro i x e
    cases i with
    | zero =>
      simp at e
      subst e
      exact ⟨_, rfl, h1⟩
    | succ i => exact ih (by simpa using e)
theorem At2.get' (h : At2 p as xs) : ∀ {i : Nat} {a : Addr}, as[i]? = some a → ∃ x, xs[i]? = some x ∧ p a x := by
  induction h with
  | nil => intro i x e; simp at e
  | cons h1 _ ih =>
    intro i x e
    cases i with
    | zero =>
      simp at e
      subst e
      exact ⟨_, rfl, h1⟩
    | succ i => exact ih (by simpa using e)
theorem At2.app (h : At2 p as xs) (h2 : At2 p bs ys) : At2 p (as ++ bs) (xs ++ ys) := by
  induction h with
  | nil => exact h2
  | cons h1 _ ih => exact .cons h1 ih
theorem At2.snoc {a : Addr} {x : α} (h : At2 p as xs) (h1 : p a x) : At2 p (as ++ [a]) (xs ++ [x]) := h.app (.cons h1 .nil)
theorem At2.take (h : At2 p as xs) (n : Nat) : At2 p (as.take n) (xs.take n) := by
  induction h generalizing n with
  | nil => simp; exact .nil
  | cons h1 _ ih =>
    cases n with
    | zero => exact .nil
    | succ n => exact .cons h1 (ih n)
theorem At2.drop (h : At2 p as xs) (n : Nat) : At2 p (as.drop n) (xs.drop n) := by
  induction h generalizing n with
  | nil => simp; exact .nil
  | cons h1 h2 ih =>
    cases n with
    | zero => exact .cons h1 h2
    | succ n => exact ih n
theorem At2.split {ys : List α} (h : At2 p as (xs ++ ys)) : ∃ bs cs, as = bs ++ cs ∧ At2 p bs xs ∧ At2 p cs ys := by
  induction xs generalizing as with
  | nil => exact ⟨[], as, rfl, .nil, h⟩
  | cons x xs ih =>
    cases h with
    | cons h1 h2 =>
      obtain ⟨bs, cs, rfl, h3, h4⟩ := ih h2
      exact ⟨_ :: bs, cs, rfl, .cons h1 h3, h4⟩
theorem At2.dp {K : PySem.W.Frag} {H : Hp} {f : α → PyData} (h : At2 p as xs) (g : ∀ a x, p a x → Dp K H (.ref a) (f x)) : DpAll K H (as.map V.ref) (xs.map f) := by
  induction h with
  | nil => exact .nil
  | cons h1 _ ih => exact .cons (g _ _ h1) ih
theorem At2.of_zip : ∀ {as : List Addr} {xs : List α}, as.length = xs.length → (∀ (i : Nat) (a : Addr) (x : α), as[i]? = some a → xs[i]? = some x → p a x) → At2 p as xs
  | [], [], _, _ => .nil
  | a :: as, x :: xs, l, h => .cons (h 0 a x rfl rfl) (At2.of_zip (by simpa using l) fun i b y h1 h2 => h (i + 1) b y (by simpa using h1) (by simpa using h2))
  | [], _ :: _, l, _ => by simp at l
  | _ :: _, [], l, _ => by simp at l
end
theorem map_get {α β : Type} {f : α → β} {l : List α} {i : Nat} {y : β} (h : (l.map f)[i]? = some y) : ∃ x, l[i]? = some x ∧ f x = y := by
  rw [List.getElem?_map] at h
  cases z : l[i]? with
  | none => rw [z] at h; cases h
  | some x => rw [z] at h; exact ⟨x, rfl, Option.some.inj h⟩

/-! ### pairs of numbers -/
def PrAt (K : PySem.W.Frag) (H : Hp) (a : Addr) (x : Int × Int) : Prop := SqT K H a [.int x.1, .int x.2]
def prD (x : Int × Int) : PyData := .tuple [.int x.1, .int x.2]
theorem PrAt.same {K : PySem.W.Frag} {H H1 : Hp} {a : Addr} {x : Int × Int} (h : PrAt K H a x) (s : Same H H1) : PrAt K H1 a x := same_seqT s h
theorem PrAt.dp {K : PySem.W.Frag} {H : Hp} {a : Addr} {x : Int × Int} (h : PrAt K H a x) : Dp K H (.ref a) (prD x) := .tup h (.cons (.int _) (.cons (.int _) .nil))
theorem prD_rep {x : Int × Int} (h1 : x.1.natAbs < 2 ^ 398) (h2 : x.2.natAbs < 2 ^ 398) : RepOk (prD x) 1 2 := by
  refine (RepOk.tuple (k := 0) (n := 0) fun d hd => ?_).mono (Nat.le_refl _) (by show 2 * 1 ≤ 2; decide)
  have z : d = .int x.1 ∨ d = .int x.2 := by simpa using hd
  rcases z with rfl | rfl
  · exact RepOk.int h1
  · exact RepOk.int h2
theorem prs_rep {xs : List (Int × Int)} {n : Nat} (h : ∀ x ∈ xs, x.1.natAbs < 2 ^ 398 ∧ x.2.natAbs < 2 ^ 398) (l : xs.length ≤ n) : RepOk (.list (xs.map prD)) 2 (n * 3) := by
  refine (RepOk.list (k := 1) (n := 2) fun d hd => ?_).mono (Nat.le_refl _) (by rw [List.length_map]; exact Nat.mul_le_mul_right _ l)
  obtain ⟨x, hx, rfl⟩ := List.mem_map.mp hd
  exact prD_rep (h x hx).1 (h x hx).2
end RO

namespace RO
open PySem PySem.Spec PyProof.Rows L2

/-! ### sorted of a set of numbers, however many -/
section
variable {P : Program} {w : World} {A : Around} {E : Value → Shared → Prop} {s : Shared} {a : Addr}
theorem big_sorted_set {S : Int → Bool} {n : Nat} {Q : Value → Shared → Prop} (R : SetR w s.heap a S n) (hd0 : A.handled = none) (small : n ≤ 100000)
    (fin : ∀ s2 q (out : Array Value) (c : Nat) (ns : List Int), (∀ b o, s.heap.get? b = some o → s2.heap.get? b = some o) → s2.gens = s.gens → s2.os = s.os → s.heap.objs.size ≤ q →
      s2.heap.get? q = some (seqObj "list" out c) → IntsAre out.toList ns → ns.Pairwise (· < ·) → (∀ k, k ∈ ns ↔ S k = true) → ns.length = n → Q (.ref q) s2) : wpAny (model P w) A (call (.builtin "sorted") [.ref a]) Q E s := by
  obtain ⟨o, es, ep, t, ho, ex, hdat, good, nd, mem, bnd, fits, cnt, ris, left⟩ := R
  apply Calls.call_function_entry kind_sorted plain_sorted entry_sorted (args_sorted1 _)
  unfold Builtin.«sorted»
  apply wpAny_bind (m := checkCount "sorted" 1 1 _)
  apply wpAny_pure
  apply wpAny_bind
  apply collect_set (A := A.in1) hd0 ⟨o, ho, ex.1, hdat⟩ fits bnd ris left
  intro s1 vs keep1 big1 g1 os1 pm
  have lv : vs.length = n := by
    rw [pm.length_eq, List.length_map, Array.length_toList]
    exact cnt
  have isI : IntsAre vs (vs.map Builtin.Re.reRawOf) := ints_of vs fun v hv => by
    obtain ⟨e, he, q⟩ := List.mem_map.mp (pm.mem_iff.mp hv)
    obtain ⟨k, tk, h1, _⟩ := good e he
    exact ⟨k, tk, q ▸ h1⟩
  have perm0 : (vs.map Builtin.Re.reRawOf).Perm (es.toList.map keyOf) := by
    have z := pm.map Builtin.Re.reRawOf
    rwa [List.map_map] at z
  have fit : vs.length ≤ sizeLine := by
    rw [lv, sizeLine_eq]
    omega
  refine wpAny_bind (wpAny_newList ?_ fit)
  have at0 : (s1.heap.push (seqObj "list" vs.toArray 0)).get? s1.heap.objs.size = some (seqObj "list" vs.toArray 0) := Heap.get?_push_size _ rfl
  refine wpAny_bind (wpAny_holding (wpAny_call_entry slot_list_sort ⟨_, at0, rfl⟩ entry_list_sort
    (SrtO.list_sort_ord SrtO.swo_int at0 fit (fun h2 => SrtO.ints_sortable isI h2) fun out h1 h2 => ⟨_, rfl, ?_⟩) (args_list_sort _)))
  obtain ⟨k1, k2, k3⟩ := SrtO.ints_out isI h1 h2
  obtain ⟨c, hc⟩ := sortedHeap_at (vs := vs) (out := out.toArray) at0
  have perm1 : (out.map SrtO.iv).Perm (es.toList.map keyOf) := k2.trans perm0
  apply wpAny_pure
  refine ⟨_, rfl, fin _ s1.heap.objs.size out.toArray c (out.map SrtO.iv) (fun b u e => ?_) g1 os1 big1 hc k1 (lt_of_le_nodup _ k3 (perm1.nodup_iff.mpr nd)) (fun k => ?_) ?_⟩
  · have z := keep1 b u e
    have lt := Heap.lt_size z
    show (sortedHeap (s1.heap.push (seqObj "list" vs.toArray 0)) s1.heap.objs.size vs out.toArray).get? b = some u
    rw [sortedHeap_old (Nat.ne_of_lt lt) (by rw [size_push']; exact Nat.lt_succ_of_lt lt)]
    exact Heap.get?_push_of_some _ z
  · rw [perm1.mem_iff, ← mem k]
  · rw [perm1.length_eq, List.length_map, Array.length_toList]
    exact cnt
end
def rSortS (w : World) : List V → Hp → VK → Prop := fun vs H Q => ∃ (a : Addr) (S : Int → Bool) (n : Nat), vs = [V.ref a] ∧ H a = some (SetO w a S n) ∧ n ≤ 100000 ∧
  ∀ (ns : List Int) (p : Addr), ns.Pairwise (· < ·) → (∀ k : Int, k ∈ ns ↔ S k = true) → ns.length = n → H p = none → Q (.ref p) (upd H p (.lst (ns.map V.int)))
theorem k_sortS (ww : World) {X : Cx} (hc : X.calm = true) (h2 : X.w = ww := by rfl) : CallR X (.builtin "sorted") (rSortS ww) := by
  subst h2
  intro pins s σ H vs us Q I r h
  obtain ⟨a, S, n, rfl, ha, big, q⟩ := h
  rw [Vals.ref1 r]
  apply big_sorted_set (setO_get I ha) (I.ok.hd hc) big
  intro s2 p out c ns keep g os hp at1 isI asc mem len
  have fit : (ns.map V.int).length ≤ sizeLine := by
    rw [List.length_map, len, sizeLine_eq]
    omega
  have free : H p = none := I.hok.fresh hp
  have e : s2 = { s with heap := s2.heap, gens := s2.gens, drawn := s2.drawn, toks := s2.toks } := by
    cases s2
    cases s
    cases os
    rfl
  have J : Inv X pins σ (upd H p (.lst (ns.map V.int))) { s with heap := s2.heap, gens := s2.gens, drawn := s2.drawn, toks := s2.toks } :=
    I.call (ch := []) (Un.laid keep hp free) (I.hok.laid keep hp ⟨fit, out.toList, c, vals_of_ints isI, at1⟩) (g ▸ I.bare) (fun _ z => nomatch z)
  rw [e]
  exact ⟨.ref p, _, J, rfl, q ns p asc mem len free⟩
end RO

namespace RO
open PySem PySem.Spec PyProof.Rows L2

/-! ### a list, whatever it holds, unlike the empty one -/
def rNeE (K : PySem.W.Frag) : R2 := fun x y H Q => ∃ a b xs, x = .ref a ∧ y = .ref b ∧ SqL K H a xs ∧ SqL K H b [] ∧ Q (.bl (!xs.isEmpty)) H
theorem k_neE (K : PySem.W.Frag) {X : Cx} (hu : X.A.units + 64 < cLine) (h : X.K = K := by rfl) : OpR X (compareOp .NotEq) (rNeE K) := by
  subst h
  intro pins s σ H x y v u Q I rx ry h
  obtain ⟨a, b, xs, rfl, rfl, h1, h2, q⟩ := h
  cases xs with
  | nil =>
    refine k_neD (K := X.K) hu rfl pins s σ H _ _ v u Q I rx ry ⟨.list [], .list [], .lst h1 .nil, .lst h2 .nil, rfl, rfl, ?_⟩
    exact q
  | cons x xs =>
    cases rx
    cases ry
    obtain ⟨i1, r1, p1, _⟩ := I.list h1
    obtain ⟨i2, r2, p2, _⟩ := I.list h2
    cases r2
    have l1 := r1.length
    refine SeqAt.RcNeAt.lists_lengths p1.isList p2.isList ?_ (by omega) _ _ _ _ ⟨.bl true, H, I, rfl, q⟩
    rw [List.size_toArray, ← l1]
    rfl
end RO

namespace RO
open PySem PySem.Spec PyProof.Rows L2

/-! ### a comprehension over two walks, one within the other -/
section
variable {J J1 : It} {n n1 : Nat} {G G1 : Hp → Prop} {Y Y1 : Nat → Hp → V → Hp → Prop}
/-- the inner walk -/
theorem lc2_in (w : Walk J1 n1 G1 Y1) {g1 : TG} {tt1 : TT} {te : TE} {vs1 : List Nat} {σ2 : L2.St} {H4 : Hp} {D : Addr} {Nx : Hp → Prop} (Pw : Nat → Hp → Prop) (h0 : Pw 0 H4) (hG : ∀ j H, j ≤ n1 → Pw j H → G1 H)
    (hs : ∀ j x H H', j < n1 → Pw j H → Y1 j H x H' → g1 x (wipe σ2 vs1) H' fun σ3 H5 => wipe σ3 vs1 = wipe σ2 vs1 ∧ tt1 σ3 H5 fun b H6 => if b = true then te σ3 H6 fun y H7 => ∃ acc, H7 D = some (.lst acc) ∧ acc.length < sizeLine ∧ Pw (j + 1) (upd H7 D (.lst (acc ++ [y]))) else Pw (j + 1) H6)
    (hd : ∀ H, Pw n1 H → Nx H) :
    ∃ W1 : Nat → Nat → Hp → Prop, (∃ m, W1 0 m H4) ∧ ∀ j k H, W1 j k H →
      (J1.stop j H ∧ Nx H) ∨ (J1.go j H ∧ ∃ Nx1 : Hp → Prop, (∀ H', Nx1 H' → ∃ k', k' < k ∧ W1 (j + 1) k' H') ∧ ∀ x H', J1.yld j H x H' → g1 x (wipe σ2 vs1) H' fun σ3 H5 => wipe σ3 vs1 = wipe σ2 vs1 ∧ tt1 σ3 H5 fun b H6 =>
        if b = true then te σ3 H6 fun y H7 => ∃ acc, H7 D = some (.lst acc) ∧ acc.length < sizeLine ∧ Nx1 (upd H7 D (.lst (acc ++ [y]))) else Nx1 H6) := by
  refine ⟨fun j k H => k = n1 - j ∧ j ≤ n1 ∧ Pw j H, ⟨n1, by simp, Nat.zero_le _, h0⟩, ?_⟩
  rintro j k H ⟨rfl, le, p⟩
  have q := hG j H le p
  rcases Nat.lt_or_ge j n1 with lt | ge
  · exact .inr ⟨w.goes j H lt q, Pw (j + 1), fun H' p' => ⟨n1 - (j + 1), by omega, rfl, lt, p'⟩, fun x H' y => hs j x H H' lt p (w.yields j H x H' lt q y)⟩
  · obtain rfl : j = n1 := by omega
    exact .inl ⟨w.stops H q, hd H p⟩
/-- the outer walk -/
theorem lc2_it (w : Walk J n G Y) {g g1 : TG} {tt tt1 : TT} {te : TE} {wi1 : TI} {vs vs1 : List Nat} {σ : L2.St} {H1 : Hp} {D : Addr} {Qd : Hp → Prop} (Pv : Nat → Hp → Prop) (h0 : Pv 0 (upd H1 D (.lst []))) (hG : ∀ i H, i ≤ n → Pv i H → G H)
    (hs : ∀ i x H H', i < n → Pv i H → Y i H x H' → g x (wipe σ vs) H' fun σ2 H2 => wipe σ2 vs = wipe σ vs ∧ tt σ2 H2 fun b H3 =>
      if b = true then wi1 σ2 H3 fun J1 H4 => ∃ W1 : Nat → Nat → Hp → Prop, (∃ m, W1 0 m H4) ∧ ∀ j k H, W1 j k H →
        (J1.stop j H ∧ Pv (i + 1) H) ∨ (J1.go j H ∧ ∃ Nx1 : Hp → Prop, (∀ H', Nx1 H' → ∃ k', k' < k ∧ W1 (j + 1) k' H') ∧ ∀ x H', J1.yld j H x H' → g1 x (wipe σ2 vs1) H' fun σ3 H5 => wipe σ3 vs1 = wipe σ2 vs1 ∧ tt1 σ3 H5 fun b H6 =>
          if b = true then te σ3 H6 fun y H7 => ∃ acc, H7 D = some (.lst acc) ∧ acc.length < sizeLine ∧ Nx1 (upd H7 D (.lst (acc ++ [y]))) else Nx1 H6)
      else Pv (i + 1) H3) (hd : ∀ H, Pv n H → Qd H) :
    ∃ W : Nat → Nat → Hp → Prop, (∃ m, W 0 m (upd H1 D (.lst []))) ∧ ∀ i m H, W i m H →
      (J.stop i H ∧ Qd H) ∨ (J.go i H ∧ ∃ Nx : Hp → Prop, (∀ H', Nx H' → ∃ m', m' < m ∧ W (i + 1) m' H') ∧ ∀ x H', J.yld i H x H' → g x (wipe σ vs) H' fun σ2 H2 => wipe σ2 vs = wipe σ vs ∧ tt σ2 H2 fun b H3 =>
        if b = true then wi1 σ2 H3 fun J1 H4 => ∃ W1 : Nat → Nat → Hp → Prop, (∃ m, W1 0 m H4) ∧ ∀ j k H, W1 j k H →
          (J1.stop j H ∧ Nx H) ∨ (J1.go j H ∧ ∃ Nx1 : Hp → Prop, (∀ H', Nx1 H' → ∃ k', k' < k ∧ W1 (j + 1) k' H') ∧ ∀ x H', J1.yld j H x H' → g1 x (wipe σ2 vs1) H' fun σ3 H5 => wipe σ3 vs1 = wipe σ2 vs1 ∧ tt1 σ3 H5 fun b H6 =>
            if b = true then te σ3 H6 fun y H7 => ∃ acc, H7 D = some (.lst acc) ∧ acc.length < sizeLine ∧ Nx1 (upd H7 D (.lst (acc ++ [y]))) else Nx1 H6)
        else Nx H3) := by
  refine ⟨fun i m H => m = n - i ∧ i ≤ n ∧ Pv i H, ⟨n, by simp, Nat.zero_le _, h0⟩, ?_⟩
  rintro i m H ⟨rfl, le, p⟩
  have q := hG i H le p
  rcases Nat.lt_or_ge i n with lt | ge
  · exact .inr ⟨w.goes i H lt q, Pv (i + 1), fun H' p' => ⟨n - (i + 1), by omega, rfl, lt, p'⟩, fun x H' y => hs i x H H' lt p (w.yields i H x H' lt q y)⟩
  · obtain rfl : i = n := by omega
    exact .inl ⟨w.stops H q, hd H p⟩
end

/-! ### parts of a list, all from it -/
theorem strs_from {six : List Str} : ∀ {ys : List V}, (∀ y ∈ ys, y ∈ six.map V.str) → ∃ ls : List Str, ys = ls.map V.str ∧ ∀ l ∈ ls, l ∈ six
  | [], _ => ⟨[], rfl, fun _ z => nomatch z⟩
  | y :: ys, h => by
    obtain ⟨l, hl, e⟩ := List.mem_map.mp (h y (List.mem_cons_self ..))
    obtain ⟨ls, e2, h2⟩ := strs_from fun z hz => h z (List.mem_cons_of_mem _ hz)
    refine ⟨l :: ls, by rw [List.map_cons, e, ← e2], fun z hz => ?_⟩
    rcases List.mem_cons.mp hz with q | q
    · rw [q]
      exact hl
    · exact h2 z q
theorem cut_from (xs : List V) (lo hi : Option Int) : ∀ x ∈ cutV xs lo hi, x ∈ xs := fun x hx => by
  unfold cutV at hx
  exact List.mem_of_mem_drop (List.mem_of_mem_take hx)
theorem cut_one (xs : List V) (i : Nat) (h : i < xs.length) : (cutV xs (some (i : Int)) (some ((i : Int) + 1))).length = 1 := by
  unfold cutV
  rw [show ((i : Int) + 1) = ((i + 1 : Nat) : Int) by omega, HT.sIx_nat, HT.sIx_nat, List.length_take, List.length_drop]
  omega
end RO

namespace RO
open PySem PySem.Spec PyProof.Rows L2
/-! ### x in xs, of data -/
theorem k_inD (K : PySem.W.Frag) {k : Nat} {X : Cx} (hr : Room k X.A) (h : X.K = K := by rfl) : OpR X (compareOp .In) (rInD K) := by
  subst h
  exact op_inD (by have := hr.un; omega)
theorem k_min (K : PySem.W.Frag) {X : Cx} (hc : X.calm = true) (h : X.K = K := by rfl) : CallR X (.builtin "min") (rMin K) := by
  subst h
  exact cr_min hc
end RO

/-! Ringorders: an exception that is kept behind its suite; isinstance of it. -/
namespace RO
open PySem PySem.Spec PyProof.Rows L2

/-- what is known of a caught exception at a: its class, its dict -/
def ExH (cls : Value) (d : Option Addr) (a : Addr) : HO :=
  .ext fun h => ∃ (ob : Obj) (fs : Array Value), h.get? a = some ob ∧ Zc cls d ob ∧ ob.data = .fields fs
theorem exH_ok {P : Program} {w : World} {H : Hp} {h : Heap} {a : Addr} {cls : Value} {d : Option Addr} {ob : Obj} {fs : Array Value} (e : h.get? a = some ob) (z : Zc cls d ob) (q : ob.data = .fields fs) : ObjOk P w H h a (ExH cls d a) :=
  ⟨⟨ob, fs, e, z, q⟩, ⟨ob, e⟩, fun _ _ ⟨o, v, q1, q2⟩ k => ⟨o, v, k o q1, q2⟩⟩

section
variable {X : Cx} {pins : List (Addr × Obj)} {σ : L2.St} {H : Hp} {s : Shared}
/-- an object that was not there when the def began, and is not tracked, is tracked from now on -/
theorem adopt {a : Addr} {ob : Obj} {fs : Array Value} {cls : Value} {d : Option Addr} (I : Inv X pins σ H s) (there : s.heap.get? a = some ob) (z : Zc cls d ob) (fld : ob.data = .fields fs) (hn : H a = none)
    (n0 : X.s_0.heap.get? a = none) (nL : a ≠ X.env.locals) (np : ∀ p ∈ X.pn ++ pins, p.1 ≠ a) : Inv X pins σ (upd H a (ExH cls d a)) s := by
  have far : ∀ b u, X.s_0.heap.get? b = some u → b ≠ a := by
    intro b u e q
    rw [q, n0] at e
    cases e
  have off : ∀ {b : Addr} {u : HO}, H b = some u → upd H a (ExH cls d a) b = some u := by
    intro b u e
    rw [upd_ne (ne_of_none e hn)]
    exact e
  have nC : ∀ x c, X.env.cells.lookup x = some c → c ≠ a := by
    intro x c e q
    obtain ⟨v, o, h1, h2⟩ := I.cell x c e
    rw [q, there] at h1
    cases h1
    rw [fld] at h2
    cases h2
  refine ⟨I.ok, I.os, I.bare, ⟨I.base.keep, I.base.slot, ?_, I.base.there, ?_, ?_, ?_⟩, I.loc, I.cell, ?_, ?_, ?_, ?_, I.len⟩
  · intro b u e m hx
    rw [upd_ne (far b u e)]
    exact I.base.free b u e m hx
  · exact fun b xs e => off (I.base.tups b xs e)
  · exact fun b o u e => off (I.base.frzs b o u e)
  · intro b ps e
    obtain ⟨more, q⟩ := I.base.tbls b ps e
    exact ⟨more, off q⟩
  · rw [upd_ne (Ne.symm nL)]
    exact I.free
  · intro x c e
    rw [upd_ne (nC x c e)]
    exact I.freeC x c e
  · intro p hp
    obtain ⟨e1, e2, e3⟩ := I.pin p hp
    exact ⟨e1, by rw [upd_ne (np p hp)]; exact e2, e3⟩
  · intro b u e
    by_cases hb : b = a
    · subst hb
      rw [upd_same] at e
      cases e
      exact exH_ok there z fld
    · rw [upd_ne hb] at e
      exact (I.hok b u e).stay (fun _ _ _ q => q) (fun _ q => off q) fun _ _ q => off q
end

/-- what 'except c as n: suite' wishes of an exception of the body, where the exception is kept behind the suite; slot i is n's -/
def wKeep (K : PySem.W.Frag) (c : Value) (i : Nat) (ts : Addr → Value → Option Addr → TS) (Wout : WX) (D : Ends) : WX := fun cls d σ H =>
  ∃ b, PySem.W.exmOne K cls c = some b ∧
    (b = true → ∀ a, H a = none → ts a cls d
      { nx := fun σ' H' => D.nx (σ'.set i none) (upd H' a (ExH cls d a))
        rt := fun v H' => D.rt v (upd H' a (ExH cls d a))
        bk := fun σ' H' => D.bk (σ'.set i none) (upd H' a (ExH cls d a))
        ct := fun σ' H' => D.ct (σ'.set i none) (upd H' a (ExH cls d a)) } (σ.set i (some (.ref a))) H) ∧
    (b = false → Wout cls d σ H)

section
variable {X : Cx} {x n : Str} {c : Value} {i : Nat} {body suite : List Stmt} {b0 : Stmt} {np pos pos2 : Pos} {tb : WX → TS} {ts : Addr → Value → Option Addr → TS} {Wout : WX}
theorem ps_try_keep (hs : X.stack = X.env :: X.outer) (hf : X.env.frame = some X.env.locals) (hex : X.ex = []) (hN : X.N.Nodup) (hi : X.N[i]? = some n) (hln : X.env.kindOf n = some .local) (hc : Names X x c) (tk : Takes X Wout)
    (hb : ∀ (W : WX) (pn : List (Addr × Obj)) (xe : Value → Shared → Prop), Takes (X.tr pn xe) W → PassesOwn (model X.prog X.w) X.A X.env xe → PSs (X.tr pn xe) body (tb W))
    (hsu : ∀ (a : Addr) (ob : Obj) (cls : Value) (d : Option Addr) (pn : List (Addr × Obj)), Zc cls d ob → (∃ fs, ob.data = .fields fs) → PSs (X.suite a ((a, ob) :: pn)) (b0 :: suite) (ts a cls d)) :
    PS X (.Try body [.ExceptHandler (some (.Name x np)) (some n) (b0 :: suite) pos2] [] [] pos) (fun D σ H => tb (wKeep X.K c i ts Wout D) D σ H) := by
  constructor
  intro pins s σ H D I h
  have ok := I.ok
  have frames : X.A.frames = some (X.env :: X.outer) := ok.frames.trans (congrArg some hs)
  refine wpAny_Try_except ?_
  let catch_ : Value → Shared → Prop := fun e t1 => wpAny (model X.prog X.w) X.A (noteFrame e X.env)
    (fun _ t2 => wpAny (model X.prog X.w) X.A (setFlight e none)
      (fun _ t3 => wpAny (model X.prog X.w) X.A (handleBy e X.env [.ExceptHandler (some (.Name x np)) (some n) (b0 :: suite) pos2]) (SP X pins D) X.xe t3) X.xe t2) X.xe t1
  have caught : Takes (X.tr (X.pn ++ pins) catch_) (wKeep X.K c i ts Wout D) := by
    rintro u t ⟨a, B, tI, pins1, τ, G, cls, d, rfl, J1, nb, up, sky, na, os, ag, b, isB, yes, no⟩
    have J : Inv X pins τ G tI := J1.ofTry ok
    rw [show (X.tr (X.pn ++ pins) catch_).stack = X.env :: X.outer from hs] at sky
    show wpAny (model X.prog X.w) X.A (noteFrame (.ref a) X.env) _ _ _
    refine Sky.land Zc.steady frames hf sky fun h3 fl3 up3 => ?_
    have st3 := up.trans up3
    have J3 : Inv X pins τ G { t with heap := h3 } := J.landed nb fl3.1 st3 os ag
    obtain ⟨ob3, fs3, at3, z3, fd3⟩ := fl3.there
    have noFrame : a ∉ frs (X.env :: X.outer) := by
      intro hm
      obtain ⟨_, o, e, hnf⟩ := fl3.2.2.1.mem hm
      rw [at3] at e
      cases e
      exact hnf _ fd3
    have nL : a ≠ X.env.locals := by
      intro e
      exact noFrame (List.mem_filterMap.mpr ⟨X.env, List.mem_cons_self, e ▸ hf⟩)
    have nF : a ∉ X.fs := by
      intro hm
      obtain ⟨e, he, q⟩ := List.mem_filterMap.mp hm
      exact noFrame (List.mem_filterMap.mpr ⟨e, List.mem_cons_of_mem _ he, q⟩)
    -- it was not there ahead
    have newI : ∀ o, tI.heap.get? a ≠ some o := by
      intro o e
      have q := nb a o e (by rw [show (X.tr (X.pn ++ pins) catch_).stack = X.env :: X.outer from hs]; exact noFrame)
      rw [fl3.2.1] at q
      cases q
    have new0 : X.s_0.heap.get? a = none := by
      cases e : X.s_0.heap.get? a with
      | none => rfl
      | some o =>
        obtain ⟨o2, q⟩ := J.base.there a o e (by rw [hex]; exact fun z => nomatch z)
        exact (newI o2 q).elim
    have newP : ∀ p ∈ X.pn ++ pins, p.1 ≠ a := by
      intro p hp e
      have q := (J.pin p hp).1
      rw [e] at q
      exact newI _ q
    have T3 := J3.suite at3 fd3 na nL nF
    refine wpAny_handleBy_cons (codeAny_handlers_test ?_) (by intro q; cases q)
    have look : PySem.W.Looks (model X.prog X.w) h3 (typeOf (.ref a)) cls := by
      intro A' Q' E' t' k q
      refine wpAny_typeOf_ref (k _ _ at3) ?_
      rw [z3.1]
      exact q
    have match_ := PySem.W.exm_one (M := model X.prog X.w) (J3.kIn) look isB
    have named : ∀ {Q' : Value → Shared → Prop} {E' : Value → Shared → Prop}, Q' c { t with heap := h3 } → wpAny (model X.prog X.w) (X.A.mark (some (.ref a))) (eval (.Name x np) X.env) Q' E' { t with heap := h3 } := by
      intro Q' E' q
      obtain ⟨hg, hd, m | ⟨m, v, nn⟩⟩ := hc
      · exact ld_glob (X := X.suite a ((a, ob3) :: (X.pn ++ pins))) T3 hg m q hd
      · exact ld_blt (X := X.suite a ((a, ob3) :: (X.pn ++ pins))) T3 hg m v q nn hd
    refine named (match_.here ?_)
    cases b with
    | true =>
      refine codeAny_handlers_suite_as ?_
      refine HandSPX.lands_againZ fl3 fun h4 fl4 up4 => ?_
      have J4 : Inv X pins τ G { t with heap := h4 } := J.landed nb fl4.1 (st3.trans up4) os ag
      obtain ⟨ob4, fs4, at4, z4, fd4⟩ := fl4.there
      have T4 := J4.suite at4 fd4 na nL nF
      refine store_ok (X := X.suite a ((a, ob4) :: (X.pn ++ pins))) (v := .ref a) T4 hN hi (.inl hln) rfl (fun t5 T5 => ?_) (.inr hln)
      have went := (hsu a ob4 cls d (X.pn ++ pins) z4 ⟨_, fd4⟩).run [] t5 _ G _ T5 (yes rfl a na)
      refine wpAny_mono went (fun fl t6 hsp => ?_) (fun _ _ z => z.elim)
      have ends : ∀ {τ6 : L2.St} {G6 : Hp} {Q' : Shared → Prop}, Inv (X.suite a ((a, ob4) :: (X.pn ++ pins))) [] τ6 G6 t6 → (∀ t7, Inv X pins (τ6.set i none) (upd G6 a (ExH cls d a)) t7 → Q' t7) →
          wpAny (model X.prog X.w) X.A (do bindName X.env n .none; unbindBehindTheSuite X.env n pos2) (fun _ t7 => Q' t7) X.xe t6 := by
        intro τ6 G6 Q' T6 hq
        obtain ⟨p1, p2, _⟩ := T6.pin (a, ob4) (List.mem_append_left _ List.mem_cons_self)
        exact gone_ok (adopt (T6.unsuite ok) p1 z4 fd4 p2 new0 nL newP) hN hi hln hq
      cases fl with
      | next =>
        obtain ⟨_, _, T6, q6⟩ := hsp
        exact ends T6 fun _ T7 => ⟨_, _, T7, q6⟩
      | brk =>
        obtain ⟨_, _, T6, q6⟩ := hsp
        exact ends T6 fun _ T7 => ⟨_, _, T7, q6⟩
      | cont =>
        obtain ⟨_, _, T6, q6⟩ := hsp
        exact ends T6 fun _ T7 => ⟨_, _, T7, q6⟩
      | ret u =>
        obtain ⟨_, _, _, T6, r6, q6⟩ := hsp
        exact ends T6 fun _ T7 => ⟨_, _, _, T7, r6, q6⟩
    | false =>
      show wpAny _ X.A (handleBy (.ref a) X.env []) _ _ _
      refine wpAny_handleBy_nil ?_
      obtain ⟨_, _, _, ob, fs, tr, _, _, e1, _, e2, e3, _⟩ := id fl3
      unfold PySem.passOn
      refine wpAny_bind (wpAny_field e1 e2 e3 ?_)
      rw [if_neg (show ¬ ((Value.ref tr == Value.none) = true) by simp)]
      have out : wpAny (model X.prog X.w) X.A (setFlight (.ref a) X.env.frame) (fun _ t4 => wpAny (model X.prog X.w) X.A (throw (.ref a) : Sem Flow) (SP X pins D) X.xe t4) X.xe { t with heap := h3 } := by
        rw [hf]
        refine HandSPX.setFlight_upZ fl3 fun h4 held up4 => wpAny_throw (tk _ _ ?_)
        refine ⟨a, B, tI, pins, τ, G, cls, d, rfl, J, nb, st3.trans up4, .inr (.inr ?_), na, os, ag, no rfl⟩
        rw [hs]
        exact held
      first
        | exact wpAny_bind (wpAny_pure (wpAny_bind out))
        | exact wpAny_bind out
  have went := (hb (wKeep X.K c i ts Wout D) (X.pn ++ pins) catch_ caught PassesOwn.looking).run [] s σ H D (I.toTry _) h
  refine wpAny_mono went (fun fl t1 hsp => ?_) (fun e t1 he => he)
  cases fl with
  | next =>
    obtain ⟨_, _, J, q⟩ := hsp
    exact wpAny_execs_nil ⟨_, _, J.ofTry ok, q⟩
  | brk =>
    obtain ⟨_, _, J, q⟩ := hsp
    exact ⟨_, _, J.ofTry ok, q⟩
  | cont =>
    obtain ⟨_, _, J, q⟩ := hsp
    exact ⟨_, _, J.ofTry ok, q⟩
  | ret u =>
    obtain ⟨_, _, _, J, r, q⟩ := hsp
    exact ⟨_, _, _, J.ofTry ok, r, q⟩
end

/-! ### isinstance, of a kept exception too -/
/-- a value's class: of a kept exception too -/
inductive TyZ (K : PySem.W.Frag) (H : Hp) : V → Value → Prop where
  | old {x : V} {t : Value} (h : TyX K H x t) : TyZ K H x t
  | exc {a D : Addr} (e : H a = some (ExH (.ref D) none a)) (c : ExcC K D) : TyZ K H (.ref a) (.ref D)
theorem TyZ.non {K : PySem.W.Frag} {H : Hp} : TyZ K H .non (.type "NoneType") := .old (.base .non)
section
variable {X : Cx} {pins : List (Addr × Obj)} {σ : L2.St} {H : Hp} {s : Shared}
theorem kit_ofZ {x : V} {u t : Value} (I : Inv X pins σ H s) (rx : RelV x u) (ty : TyZ X.K H x t) : ∃ P : Heap → Prop, PySem.W.KitX X.K u t P ∧ P s.heap ∧ u ≠ .builtin "__main__.__loader__#opaque" := by
  cases ty with
  | old h => exact kit_of I rx h
  | @exc a D e c =>
    cases (show u = Value.ref a from rx)
    obtain ⟨⟨ob, fs, at_, z, fd⟩, _, _⟩ := I.hok a _ e
    obtain ⟨oc, od, dt, sl⟩ := ob
    obtain ⟨z1, z2⟩ := z
    dsimp only at z1 z2 fd
    subst z1 z2 fd
    exact ⟨_, PySem.W.handS_kitx_exc c.hg c.hk c.hs c.hd c.ha c.hn c.ht c.hm, ⟨at_, rfl, rfl, trivial⟩, fun z => nomatch z⟩
end
/-- isinstance(x, c) -/
def rIsiZ (K : PySem.W.Frag) : List V → Hp → VK → Prop := fun xs H Q => ∃ (x c : V) (t u : Value) (b : Bool), xs = [x, c] ∧ ClsV c u ∧ TyZ K H x t ∧ PySem.W.kitOne K t u = some b ∧ Q (.bl b) H
/-- isinstance(x, (c1, c2, ..)) -/
def rIsiTZ (K : PySem.W.Frag) : List V → Hp → VK → Prop := fun xs H Q => ∃ (x : V) (tp : Addr) (cs : List V) (t : Value) (us : List Value) (b : Bool), xs = [x, .ref tp] ∧ H tp = some (.tup cs) ∧ Paired ClsV cs us ∧ TyZ K H x t ∧ PySem.W.kitAny K t us = some b ∧ Q (.bl b) H
section
variable {X : Cx}
theorem k_isiZ (K : PySem.W.Frag) (h : X.K = K := by rfl) : CallR X (.builtin "isinstance") (rIsiZ K) := by
  subst h
  intro pins s σ H xs us Q I r h
  obtain ⟨x, c, t, u, b, rfl, k, ty, e, q⟩ := h
  obtain ⟨u1, u2, rfl, r1, r2⟩ := vals2 r
  cases k.eq r2
  obtain ⟨_, Z, p, hx⟩ := kit_ofZ I r1 ty
  exact PySem.W.kia_one Z I.kIn p e hx fun tk => ⟨.bl b, H, I.tok tk, rfl, q⟩
theorem k_isiTZ (K : PySem.W.Frag) (h : X.K = K := by rfl) : CallR X (.builtin "isinstance") (rIsiTZ K) := by
  subst h
  intro pins s σ H xs us Q I r h
  obtain ⟨x, tp, cs, t, ws, b, rfl, hT, k, ty, e, q⟩ := h
  obtain ⟨u1, u2, rfl, r1, r2⟩ := vals2 r
  obtain rfl : u2 = Value.ref tp := r2
  obtain ⟨_, Z, p, hx⟩ := kit_ofZ I r1 ty
  obtain ⟨_, its, rv, o, h1, h2, m, h3⟩ := (show ObjOk X.prog X.w H s.heap tp (.tup cs) from I.hok tp _ hT)
  obtain rfl := ClsV.all k rv
  obtain ⟨oc, od, dt, sl⟩ := o
  dsimp only at h2 h3
  subst h2 h3
  exact PySem.W.kia_tup Z I.kIn p h1 e hx fun tk => ⟨.bl b, H, I.tok tk, rfl, q⟩
end

/-! ### calls of defs that may raise, within a try -/
section
variable {X : Cx} {CX : CXT} {k : Nat} {f : Addr} {fd : FuncData} {ps : List Str} {sp : Sp} {dvs : List V} {ds : List Value} {E : L2.St → XK} {x : Str} {p pos : Pos} {e : Expr} {es : List Expr} {t : TA}
/-- what a call of such a def asks -/
def tCallSD (sp : Sp) (dvs : List V) (E : L2.St → XK) (t : TA) : TE := fun σ H Q => t σ H fun vs H1 => sp (vs ++ dvs) H1 Q (E σ)
theorem pe_callSD (F : FnOk X.prog X.w X.K X.mg X.base CX k f fd ps sp) (hr : Room k X.A) (hg : Gl X x) (hm : X.mg x = some (.ref f)) (hk : PySem.W.keepIn X.K (.ref f) = true) (hb : Binds X.K fd ps ds) (hd : Vals dvs ds) (hx : ∀ σ, PassesAt CX X σ (E σ))
    (ha : PA X (e :: es) t) (hdb : (x == ("__debug__" : Str)) = false := by decide) (he : starEach (e :: es) X.env = (false, eval e X.env) :: starEach es X.env := by rfl)
    (hpl : (backTo pos (starEach es X.env)).any (·.1) = false := by rfl) : PE X (.Call (.Name x p) (e :: es) [] pos) (tCallSD sp dvs E t) := by
  constructor
  intro pins s σ H Q I h
  apply wpAny_Call_Name_kw
  apply ld_glob I hg hm _ hdb
  apply PySem.W.callWith_K (h₀ := X.base) I.ok.mod.kin hk _ he hpl
  apply thn (ha.run pos pins s σ H _ I h)
  rintro us s1 ⟨vs, H1, I1, r, q⟩
  refine ⟨I1.kIn, ?_⟩
  have r2 : Vals (vs ++ dvs) (us ++ ds) := r.append hd
  have many : (us ++ ds).length = ps.length := r2.length.symm.trans (F.len _ _ _ _ q)
  have ran := F.run X.A X.stack s1 H1 ⟨us, []⟩ (us ++ ds) (vs ++ dvs) Q (E σ) hr I1.env0 (hb s1 us I1.kIn many) r2 q
  show wpAny _ _ (call (.ref f) us) _ _ s1
  refine wpAny_call (codeAny_mono ran fun r s' hq => ?_)
  match r, hq with
  | .error e, hq => exact hx σ pins H1 s1 e s' I1 hq
  | .ok (.ret u), hq => exact I1.after hq
end
end RO

namespace RO
open PySem PySem.Spec PyProof.Rows L2 LamX
def top (i : Nat) : Stmt := PySem.Challenge.pw_ringorders_k16_pairs_and_spans.main.body.getD i (.Pass ⟨0, 0, 0, 0⟩)
abbrev s_is_whole : Stmt := top 16
theorem sc_is_whole : FnScope ["thing"] ["thing"] (defScope s_is_whole) := ⟨rfl, rfl, rfl, by decide +kernel, rfl, by decide +kernel, by decide +kernel⟩
abbrev s_sent_from : Stmt := top 19
theorem sc_sent_from : FnScope ["line"] ["line"] (defScope s_sent_from) := ⟨rfl, rfl, rfl, by decide +kernel, rfl, by decide +kernel, by decide +kernel⟩
abbrev s_is_pair : Stmt := top 21
theorem sc_is_pair : FnScope ["bridge", "room", "thing", "b", "r"] ["bridge", "room", "thing"] (defScope s_is_pair) := ⟨rfl, rfl, rfl, by decide +kernel, rfl, by decide +kernel, by decide +kernel⟩
abbrev s_is_number_in : Stmt := top 22
theorem sc_is_number_in : FnScope ["log", "thing"] ["log", "thing"] (defScope s_is_number_in) := ⟨rfl, rfl, rfl, by decide +kernel, rfl, by decide +kernel, by decide +kernel⟩
abbrev s_span : Stmt := top 23
theorem sc_span : FnScope ["bridge", "room", "pair", "lag", "b", "r", "shown_later"] ["bridge", "room", "pair", "lag"] (defScope s_span) := ⟨rfl, rfl, rfl, by decide +kernel, rfl, by decide +kernel, by decide +kernel⟩
abbrev s_draw : Stmt := top 25
theorem sc_draw : FnScope ["_law_pen", "_law_many", "_law_digit", "_law_at", "_law_cell", "_law_number"] ["_law_pen", "_law_many"] (defScope s_draw) := ⟨rfl, rfl, rfl, by decide +kernel, rfl, by decide +kernel, by decide +kernel⟩
abbrev s_lines : Stmt := top 26
theorem sc_lines : FnScope ["_law_pen", "_law_some", "_law_first"] ["_law_pen"] (defScope s_lines) := ⟨rfl, rfl, rfl, by decide +kernel, rfl, by decide +kernel, by decide +kernel⟩
abbrev s_whats : Stmt := top 27
theorem sc_whats : FnScope ["_law_pen", "_law_few", "_law_orders", "_law_words", "_law_first", "_law_k"] ["_law_pen"] (defScope s_whats) := ⟨rfl, rfl, rfl, by decide +kernel, rfl, by decide +kernel, by decide +kernel⟩
abbrev s_two : Stmt := top 28
theorem sc_two : FnScope ["_law_pen", "_law_most", "_law_slow", "_law_far", "_law_lines_here", "_law_orders", "_law_words", "_law_at", "_law_deck", "_law_hold", "_law_k", "_law_line", "_law_what", "_law_luck", "_law_later"] ["_law_pen", "_law_most"] (defScope s_two) := ⟨rfl, rfl, rfl, by decide +kernel, rfl, by decide +kernel, by decide +kernel⟩
abbrev s_law_is_pair : Stmt := top 29
theorem sc_law_is_pair : FnScope ["_law_deck", "_law_hold", "_law_b", "_law_r"] ["_law_deck", "_law_hold", "_law_b", "_law_r"] (defScope s_law_is_pair) := ⟨rfl, rfl, rfl, by decide +kernel, rfl, by decide +kernel, by decide +kernel⟩
abbrev s_late : Stmt := top 30
theorem sc_late : FnScope ["_law_deck", "_law_hold", "_law_b", "_law_r", "_law_far", "_law_later"] ["_law_deck", "_law_hold", "_law_b", "_law_r", "_law_far"] (defScope s_late) := ⟨rfl, rfl, rfl, by decide +kernel, rfl, by decide +kernel, by decide +kernel⟩
abbrev s_odd : Stmt := top 31
theorem sc_odd : FnScope ["_law_pen", "_law_b", "_law_r", "_law_some"] ["_law_pen", "_law_b", "_law_r"] (defScope s_odd) := ⟨rfl, rfl, rfl, by decide +kernel, rfl, by decide +kernel, by decide +kernel⟩
abbrev s_refused : Stmt := top 32
theorem sc_refused : FnScope ["_law_deck", "_law_hold", "_law_given", "_law_slow", "_law_caught", "e"] ["_law_deck", "_law_hold", "_law_given", "_law_slow"] (defScope s_refused) := ⟨rfl, rfl, rfl, by decide +kernel, rfl, by decide +kernel, by decide +kernel⟩
abbrev s_span_right : Stmt := top 33
theorem sc_span_right : FnScope ["_law_deck", "_law_hold", "_law_b", "_law_r", "_law_slow", "_law_found", "_law_low", "_law_high", "_law_late_here", "_law_alone"] ["_law_deck", "_law_hold", "_law_b", "_law_r", "_law_slow"] (defScope s_span_right) := ⟨rfl, rfl, rfl, by decide +kernel, rfl, by decide +kernel, by decide +kernel⟩
abbrev s_thing_right : Stmt := top 34
theorem sc_thing_right : FnScope ["_law_deck", "_law_hold", "_law_given", "_law_slow", "_law_due", "_law_one", "_law_log", "_law_found"] ["_law_deck", "_law_hold", "_law_given", "_law_slow"] (defScope s_thing_right) := ⟨rfl, rfl, rfl, by decide +kernel, rfl, by decide +kernel, by decide +kernel⟩
abbrev s_law : Stmt := top 35
theorem sc_law : FnScope ["_law_script", "_law_pen", "_law_odd_here", "_law_most", "_law_deck", "_law_hold", "_law_far", "_law_slow", "_law_kept", "_law_b", "_law_r", "_law_due", "_law_found", "_law_k", "_law_given"] ["_law_script"] (defScope s_law) := ⟨rfl, rfl, rfl, by decide +kernel, rfl, by decide +kernel, by decide +kernel⟩
structure Txt (w : World) (K : PySem.W.Frag) (mg : Str → Option Value) where
  a_is_whole : Addr
  d_is_whole : FuncData
  F_is_whole : Fun K "is_whole" "is_whole" s_is_whole a_is_whole d_is_whole
  b_is_whole : Binds K d_is_whole ["thing"] []
  g_is_whole : mg "is_whole" = some (.ref a_is_whole)
  a_sent_from : Addr
  d_sent_from : FuncData
  F_sent_from : Fun K "sent_from" "sent_from" s_sent_from a_sent_from d_sent_from
  b_sent_from : Binds K d_sent_from ["line"] []
  g_sent_from : mg "sent_from" = some (.ref a_sent_from)
  a_is_pair : Addr
  d_is_pair : FuncData
  F_is_pair : Fun K "is_pair" "is_pair" s_is_pair a_is_pair d_is_pair
  b_is_pair : Binds K d_is_pair ["bridge", "room", "thing"] []
  g_is_pair : mg "is_pair" = some (.ref a_is_pair)
  a_is_number_in : Addr
  d_is_number_in : FuncData
  F_is_number_in : Fun K "is_number_in" "is_number_in" s_is_number_in a_is_number_in d_is_number_in
  b_is_number_in : Binds K d_is_number_in ["log", "thing"] []
  g_is_number_in : mg "is_number_in" = some (.ref a_is_number_in)
  a_span : Addr
  d_span : FuncData
  F_span : FunD K "span" "span" (defArgs s_span) (defBody s_span) (defScope s_span) [V.int (0)] [] a_span d_span
  ds4_span : List Value
  v4_span : Vals ([] : List V) ds4_span
  b4_span : Binds K d_span ["bridge", "room", "pair", "lag"] ds4_span
  ds3_span : List Value
  v3_span : Vals ([V.int (0)] : List V) ds3_span
  b3_span : Binds K d_span ["bridge", "room", "pair", "lag"] ds3_span
  g_span : mg "span" = some (.ref a_span)
  a_draw : Addr
  d_draw : FuncData
  F_draw : Fun K "_law_draw" "_law_draw" s_draw a_draw d_draw
  b_draw : Binds K d_draw ["_law_pen", "_law_many"] []
  g_draw : mg "_law_draw" = some (.ref a_draw)
  a_lines : Addr
  d_lines : FuncData
  F_lines : Fun K "_law_lines" "_law_lines" s_lines a_lines d_lines
  b_lines : Binds K d_lines ["_law_pen"] []
  g_lines : mg "_law_lines" = some (.ref a_lines)
  a_whats : Addr
  d_whats : FuncData
  F_whats : Fun K "_law_whats" "_law_whats" s_whats a_whats d_whats
  b_whats : Binds K d_whats ["_law_pen"] []
  g_whats : mg "_law_whats" = some (.ref a_whats)
  a_two : Addr
  d_two : FuncData
  F_two : Fun K "_law_two" "_law_two" s_two a_two d_two
  b_two : Binds K d_two ["_law_pen", "_law_most"] []
  g_two : mg "_law_two" = some (.ref a_two)
  cc_two : Addr
  cd_two : d_two.code = .ref cc_two
  a_law_is_pair : Addr
  d_law_is_pair : FuncData
  F_law_is_pair : Fun K "_law_is_pair" "_law_is_pair" s_law_is_pair a_law_is_pair d_law_is_pair
  b_law_is_pair : Binds K d_law_is_pair ["_law_deck", "_law_hold", "_law_b", "_law_r"] []
  g_law_is_pair : mg "_law_is_pair" = some (.ref a_law_is_pair)
  a_late : Addr
  d_late : FuncData
  F_late : Fun K "_law_late" "_law_late" s_late a_late d_late
  b_late : Binds K d_late ["_law_deck", "_law_hold", "_law_b", "_law_r", "_law_far"] []
  g_late : mg "_law_late" = some (.ref a_late)
  a_odd : Addr
  d_odd : FuncData
  F_odd : Fun K "_law_odd" "_law_odd" s_odd a_odd d_odd
  b_odd : Binds K d_odd ["_law_pen", "_law_b", "_law_r"] []
  g_odd : mg "_law_odd" = some (.ref a_odd)
  a_refused : Addr
  d_refused : FuncData
  F_refused : Fun K "_law_refused" "_law_refused" s_refused a_refused d_refused
  b_refused : Binds K d_refused ["_law_deck", "_law_hold", "_law_given", "_law_slow"] []
  g_refused : mg "_law_refused" = some (.ref a_refused)
  a_span_right : Addr
  d_span_right : FuncData
  F_span_right : Fun K "_law_span_right" "_law_span_right" s_span_right a_span_right d_span_right
  b_span_right : Binds K d_span_right ["_law_deck", "_law_hold", "_law_b", "_law_r", "_law_slow"] []
  g_span_right : mg "_law_span_right" = some (.ref a_span_right)
  a_thing_right : Addr
  d_thing_right : FuncData
  F_thing_right : Fun K "_law_thing_right" "_law_thing_right" s_thing_right a_thing_right d_thing_right
  b_thing_right : Binds K d_thing_right ["_law_deck", "_law_hold", "_law_given", "_law_slow"] []
  g_thing_right : mg "_law_thing_right" = some (.ref a_thing_right)
  a_law : Addr
  d_law : FuncData
  F_law : Fun K "law" "law" s_law a_law d_law
  b_law : Binds K d_law ["_law_script"] []
  g_law : mg "law" = some (.ref a_law)
  it0_span : List Value
  kb0_span : KBinds K d_span ["bridge", "room", "pair", "lag"] ["lag", "pair", "room", "bridge"] (fun us ws => match us, (it0_span : List _), ws with | [], [_], [x0, x1, x2, x3] => [x3, x2, x1, x0] | _, _, _ => []) (fun us ws => match us, ([V.int (0)] : List _), ws with | [], [_], [x0, x1, x2, x3] => [x3, x2, x1, x0] | _, _, _ => [])
  kb0_is_pair : KBinds K d_is_pair ["bridge", "room", "thing"] ["room", "thing", "bridge"] (fun us ws => match us, ws with | [], [x0, x1, x2] => [x2, x0, x1] | _, _ => []) (fun us ws => match us, ws with | [], [x0, x1, x2] => [x2, x0, x1] | _, _ => [])
  z_ValueError : mg "ValueError" = none
  z_abs : mg "abs" = none
  z_bool : mg "bool" = none
  z_int : mg "int" = none
  z_isinstance : mg "isinstance" = none
  z_len : mg "len" = none
  z_list : mg "list" = none
  z_max : mg "max" = none
  z_min : mg "min" = none
  z_range : mg "range" = none
  z_repr : mg "repr" = none
  z_sorted : mg "sorted" = none
  z_str : mg "str" = none
  z_tuple : mg "tuple" = none
  z_zip : mg "zip" = none
  C_Full : Addr
  c_Full : mg "Full" = some (.ref C_Full)
  C_Late : Addr
  c_Late : mg "Late" = some (.ref C_Late)
  C_NoCard : Addr
  c_NoCard : mg "NoCard" = some (.ref C_NoCard)
  C_NoLine : Addr
  c_NoLine : mg "NoLine" = some (.ref C_NoLine)
  C_NoLog : Addr
  c_NoLog : mg "NoLog" = some (.ref C_NoLog)
  C_NoNumber : Addr
  c_NoNumber : mg "NoNumber" = some (.ref C_NoNumber)
  C_NoPair : Addr
  c_NoPair : mg "NoPair" = some (.ref C_NoPair)
  C_NoRow : Addr
  c_NoRow : mg "NoRow" = some (.ref C_NoRow)
  C_NoStretch : Addr
  c_NoStretch : mg "NoStretch" = some (.ref C_NoStretch)
  C_NoText : Addr
  c_NoText : mg "NoText" = some (.ref C_NoText)
  C_Nothing : Addr
  c_Nothing : mg "Nothing" = some (.ref C_Nothing)
  C_RingError : Addr
  c_RingError : mg "RingError" = some (.ref C_RingError)
  C_Taken : Addr
  c_Taken : mg "Taken" = some (.ref C_Taken)
  C_Unknown : Addr
  c_Unknown : mg "Unknown" = some (.ref C_Unknown)
  x_NoPair : PySem.W.excIn K C_NoPair [.type "ValueError", .type "Exception", .type "BaseException", .type "object"] "ValueError.__new__" = true
  k_NoPair : PySem.W.keepIn K (.ref C_NoPair) = true
  b_NoPair : PySem.W.subIn K (.ref C_NoPair) (.type "BaseException") = some true
  t_NoPair : PySem.W.typeIn K (.ref C_NoPair) = some (.type "type")
  e_NoPair : ExcC K C_NoPair
  q_catch : PySem.W.exmOne K (.ref C_NoPair) (.ref C_RingError) = some true
  q_vals : PySem.W.kitAny K (.ref C_NoPair) [.ref C_NoCard, .ref C_NoLine, .ref C_NoLog, .ref C_NoRow, .ref C_NoStretch, .ref C_NoText, .ref C_Taken] = some false
  q_oth : PySem.W.kitAny K (.ref C_NoPair) [.ref C_Full, .ref C_Late, .ref C_NoNumber, .ref C_Nothing, .ref C_Unknown] = some false
  q_own : PySem.W.kitOne K (.ref C_NoPair) (.ref C_NoPair) = some true
  q_val : PySem.W.kitOne K (.ref C_NoPair) (.type "ValueError") = some true
  D_SENDERS : Addr
  c_SENDERS : mg "SENDERS" = some (.ref D_SENDERS)
  es_SENDERS : Array DictEntry
  n_SENDERS : Nat
  kD_SENDERS : KDict K w D_SENDERS es_SENDERS n_SENDERS
  ki_SENDERS : ∀ p ∈ ([("port", V.str "bridge"), ("star", V.str "bridge"), ("down", V.str "bridge"), ("aport", V.str "room"), ("astar", V.str "room"), ("up", V.str "room")] : List (Str × V)), ∃ u, PySem.W.nsIn K D_SENDERS p.1 = some (some u) ∧ RelV p.2 u
  kd_SENDERS : ∀ p ∈ ([("port", V.str "bridge"), ("star", V.str "bridge"), ("down", V.str "bridge"), ("aport", V.str "room"), ("astar", V.str "room"), ("up", V.str "room")] : List (Str × V)), KDct K w D_SENDERS p.1 p.2
def lamQ (x : String) : Str := (Str.ofString x ++ Str.ofString ".<locals>.") ++ Str.ofString "<lambda>"
def tabsT {w : World} {K : PySem.W.Frag} {mg : Str → Option Value} (T : Txt w K mg) : List (Addr × Str) := [(tabOf K T.cc_two, lamQ "_law_two")]
theorem tab_in_two {w : World} {K : PySem.W.Frag} {mg : Str → Option Value} (T : Txt w K mg) : (tabOf K T.cc_two, (Str.ofString "_law_two" ++ Str.ofString ".<locals>.") ++ Str.ofString "<lambda>") ∈ tabsT T := by
  show (tabOf K T.cc_two, lamQ "_law_two") ∈ tabsT T
  simp [tabsT]
theorem tab_un_two {w : World} {K : PySem.W.Frag} {mg : Str → Option Value} (T : Txt w K mg) : ∀ q ∈ tabsT T, q.1 = tabOf K T.cc_two → q.2 = (Str.ofString "_law_two" ++ Str.ofString ".<locals>.") ++ Str.ofString "<lambda>" := by
  intro q hq
  have hq : q = (tabOf K T.cc_two, lamQ "_law_two") := by simpa [tabsT] using hq
  rcases hq with rfl
  · exact fun _ => rfl

/-! a step of a reading whose answer is fixed: a name, a number's operation -/
local macro_rules | `(tactic| walk_at "rd") => `(tactic| (first
  | refine ⟨_, rfl, ?_⟩
  | refine ⟨_, _, rfl, rfl, ?_⟩
  | (refine And.intro ?rdc ?_; (case rdc => first | decide | omega | exact ⟨by omega, by omega⟩ | exact ⟨by decide, by decide, by omega⟩ | exact ⟨by omega, by omega, by decide⟩ | exact .inl ⟨by omega, by omega⟩ | exact .inr ⟨by omega, by omega⟩))))
section
variable {P : Program} {w : World} {K : PySem.W.Frag} {mg : Str → Option Value} {base : Heap}
/-! ### the pen -/
def spDraw (K : PySem.W.Frag) : Sp := fun vs H Q _ => ∃ (p c : Addr) (n : Nat) (m : Int), vs = [.ref p, .int m] ∧ PenAt H p c n ∧ Cells K H p c ∧ n ≤ 100000 ∧ 1 ≤ m ∧ m < 1073741824 ∧
  ∀ H' r, Go K p c H (n + 1) H' → 0 ≤ r → r < m → Q (.int r) H'
theorem ok_draw (T : Txt w K mg) : FnOk P w K mg base CX0 1 T.a_draw T.d_draw ["_law_pen", "_law_many"] (spDraw K) := by
  refine T.F_draw.ok sc_draw (fun vs H Q E h => ?_) (fun cdv A outer s H vs Q E hr h => ?_)
  · obtain ⟨p, c, n, m, rfl, _⟩ := h
    rfl
  · obtain ⟨p, c, n, m, rfl, hp, hc, hn, hm1, hm2, q⟩ := h
    obtain ⟨at_, cy, e, h0, h1, h2⟩ := id hp
    obtain ⟨ne, ns, hS, hl⟩ := id hc
    refine ⟨_, (pss_cons (ps_if (pt_cmpR op_gt (pe_ix (kx_list K) (pv 0) pe_int (fun _ _ => rfl)) pe_int (nomark _)) (pss_cons (ps_set (i := 2) sc_draw.nd rfl (by first | exact Or.inl rfl | exact Or.inr rfl) (pe_op op_modN (pe_ix (kx_list K) (pv 0) pe_int (fun _ _ => rfl)) (pv 1)))
  (pss_cons (ps_asg (pe_op op_fdivN (pe_ix (kx_list K) (pv 0) pe_int (fun _ _ => rfl)) (pv 1)) (pg_sub (pv 0) pe_int set_list))
  (pss_one (ps_ret (pv 2))))) pss_nil)
  (pss_cons (ps_set (i := 3) sc_draw.nd rfl (by first | exact Or.inl rfl | exact Or.inr rfl) (pe_ix (kx_list K) (pv 0) pe_int (fun _ _ => rfl)))
  (pss_cons (ps_asg (pe_op op_add (pv 3) pe_int) (pg_sub (pv 0) pe_int set_list))
  (pss_cons (ps_set (i := 4) sc_draw.nd rfl (by first | exact Or.inl rfl | exact Or.inr rfl) (pe_op op_add (pe_op op_mul pe_int (pv 3)) pe_int))
  (C8.pss_cut (ps_if (pt_cmpR (k_neE K hr.units) (pe_ix (kx_list K) (pv 0) pe_int (fun _ _ => rfl)) (pe_lst pa_nil) (nomark _)) (pss_one (ps_set (i := 4) sc_draw.nd rfl (by first | exact Or.inl rfl | exact Or.inr rfl) (pe_ix (kx_list K) (pe_ix (kx_list K) (pv 0) pe_int (fun _ _ => rfl)) (pe_op op_modN (pv 3) (pe_callB (k_len K) (by rfl) T.z_len (by decide +kernel) (pa_cons (pe_ix (kx_list K) (pv 0) pe_int (fun _ _ => rfl)) pa_nil))) (fun _ _ => rfl)))) pss_nil)
  (C8.pss_cut (ps_if (PW.pt (pw_and (pt_cmpR op_lt (pv 3) (pe_callB (k_len K) (by rfl) T.z_len (by decide +kernel) (pa_cons (pe_ix (kx_list K) (pv 0) pe_int (fun _ _ => rfl)) pa_nil)) (nomark _)) (pw_and1 (pt_cmpR op_ge (pe_callB call_abs (by rfl) T.z_abs (by decide +kernel) (pa_cons (pv 4) pa_nil)) (pe_op op_pow pe_int pe_int) (nomark _))))) (pss_cons (ps_asg (pe_op op_fdivN (pe_callB call_abs (by rfl) T.z_abs (by decide +kernel) (pa_cons (pv 4) pa_nil)) (pv 1)) (pg_sub (pv 0) pe_int set_list))
  (pss_one (ps_ret (pe_op op_modN (pe_callB call_abs (by rfl) T.z_abs (by decide +kernel) (pa_cons (pv 4) pa_nil)) (pv 1))))) pss_nil)
  (pss_cons (ps_set (i := 5) sc_draw.nd rfl (by first | exact Or.inl rfl | exact Or.inr rfl) (pe_op op_modN (pe_op op_pow (pe_op op_add (pe_op op_add (pe_op op_modN (pv 4) pe_int) (pe_op op_mul pe_int (pv 3))) pe_int) pe_int) pe_int))
  (pss_cons (ps_set (i := 5) sc_draw.nd rfl (by first | exact Or.inl rfl | exact Or.inr rfl) (pe_op op_modN (pe_op op_pow (pe_op op_add (pe_op op_add (pv 5) (pe_op op_mul (pe_op op_mul pe_int (pv 3)) (pv 3))) pe_int) pe_int) pe_int))
  (pss_one (ps_ret (pe_op op_modN (pe_op op_fdivN (pe_op op_modN (pe_op op_add (pe_op op_mul (pv 5) (pe_op op_add (pv 3) pe_int)) pe_int) pe_int) pe_int) (pv 1)))))))))))), ?_⟩
    refine ⟨_, rfl, p, _, 2, _, rfl, rfl, SqL.of e, rfl, _, _, rfl, rfl, _, rfl, ite2 (fun t => ?_) (fun t => ?_)⟩
    · -- a rest is left
      have t' : 0 < cy := of_decide_eq_true t
      refine ⟨_, rfl, p, _, 2, _, rfl, rfl, SqL.of e, rfl, _, rfl, _, _, rfl, rfl, (by omega), ?_⟩
      refine ⟨_, rfl, p, _, 2, _, rfl, rfl, SqL.of e, rfl, _, rfl, _, _, rfl, rfl, ⟨by omega, by omega⟩, ?_⟩
      refine ⟨_, rfl, p, _, 2, 2, rfl, rfl, e, rfl, ?_⟩
      refine ⟨_, rfl, q _ _ (Go.make hc But.put upd_same h0 (by omega) (fdiv_ge h2 (by omega))) (fmod_ge (by omega)) (fmod_lt (by omega))⟩
    · refine ⟨_, rfl, p, _, 1, _, rfl, rfl, SqL.of e, rfl, ?_⟩
      refine ⟨_, rfl, _, _, rfl, rfl, _, rfl, p, _, 1, 1, rfl, rfl, e, rfl, ?_⟩
      -- the place goes on
      have e1 : upd H p (.lst ([V.ref c, V.int at_, V.int cy].set 1 (V.int (at_ + 1)))) p = some (.lst [V.ref c, V.int (at_ + 1), V.int cy]) := upd_same
      have b1 : But p H (upd H p (.lst ([V.ref c, V.int at_, V.int cy].set 1 (V.int (at_ + 1))))) := But.put
      generalize upd H p (.lst ([V.ref c, V.int at_, V.int cy].set 1 (V.int (at_ + 1)))) = H1 at e1 b1 ⊢
      have hS1 := b1.seqL ne hS
      refine ⟨_, rfl, _, _, rfl, rfl, .inl ⟨by omega, by omega⟩, _, _, rfl, rfl, ?_⟩
      refine ⟨fun σ' H' => ∃ cell : Int, σ' = [some (.ref p), some (.int m), none, some (.int at_), some (.int cell), none] ∧ Same H1 H', ?_, ?_⟩
      · refine ⟨_, rfl, p, _, 0, _, rfl, rfl, SqL.of e1, rfl, (by show 0 ≤ sizeLine; decide), fun e0 he0 => ?_⟩
        generalize hX : upd H1 e0 _ = H2
        obtain ⟨S2, f2⟩ := alloc he0 hX
        clear hX
        have e2 := S2 _ _ e1
        have hS2 := same_seqL S2 hS1
        refine ⟨c, e0, _, rfl, rfl, hS2, SqL.of f2, _, rfl, ite2 (fun t2 => ?_) (fun t2 => ⟨_, rfl, S2⟩)⟩
        have l0 : 0 < (ns.map V.int).length := by
          cases ns with
          | nil => cases t2
          | cons _ _ => exact Nat.zero_lt_succ _
        obtain ⟨v, hv, ev⟩ := atI_fmod (xs := ns.map V.int) (i := at_) l0
        obtain ⟨z, _, rfl⟩ := List.mem_map.mp hv
        exact ⟨_, rfl, p, _, 0, _, rfl, rfl, SqL.of e2, rfl, _, rfl, _, rfl, p, _, 0, _, rfl, rfl, SqL.of e2, rfl, c, _, rfl, .inl hS2, _, _, rfl, rfl, (by omega), c, _, _, _, rfl, rfl, hS2, ev, z, rfl, S2⟩
      · rintro σ' H' ⟨cell, rfl, S'⟩
        have e1 := S' _ _ e1
        have b1 := b1.trans (But.of_same S')
        have hS1 := same_seqL S' hS1
        refine ⟨fun σ2 H2 => σ2 = [some (.ref p), some (.int m), none, some (.int at_), some (.int cell), none] ∧ H2 = H', ?_, ?_⟩
        · refine ⟨_, rfl, _, rfl, p, _, 0, _, rfl, rfl, SqL.of e1, rfl, c, _, rfl, .inl hS1, _, _, rfl, rfl, _, rfl, ite2 (fun t3 => ?_) (fun t3 => iteF ⟨rfl, rfl⟩)⟩
          refine ⟨_, rfl, _, rfl, _, _, rfl, rfl, ⟨by decide, by decide, by decide⟩, _, _, rfl, rfl, _, rfl, ite2 (fun t4 => ?_) (fun t4 => ⟨rfl, rfl⟩)⟩
          have habs : (0 : Int) ≤ if cell < 0 then -cell else cell := by
            split <;> omega
          refine ⟨_, rfl, _, rfl, _, rfl, _, _, rfl, rfl, ⟨by omega, by omega⟩, _, rfl, p, _, 2, 2, rfl, rfl, e1, rfl, ?_⟩
          exact ⟨_, rfl, _, rfl, _, rfl, _, _, rfl, rfl, (by omega), q _ _ (Go.make hc (b1.trans But.put) upd_same (by omega) (by omega) (fdiv_ge habs (by omega))) (fmod_ge (by omega)) (fmod_lt (by omega))⟩
        · rintro σ2 H2 ⟨rfl, rfl⟩
          have a1 := fmod_ge (a := cell) (b := 2147483563) (by decide)
          have a2 := fmod_lt (a := cell) (b := 2147483563) (by decide)
          have a3 : 0 ≤ 60013 * at_ * at_ := Int.mul_nonneg (by omega) h0
          have a4 : 60013 * at_ * at_ ≤ 60013 * 100000 * 100000 := Int.mul_le_mul (by omega) (by omega) h0 (by decide)
          have z1 := fmod_ge (a := (cell.fmod 2147483563 + 30011 * at_ + 19) ^ Int.toNat 3) (b := 2147483629) (by decide)
          have z2 := fmod_lt (a := (cell.fmod 2147483563 + 30011 * at_ + 19) ^ Int.toNat 3) (b := 2147483629) (by decide)
          have z3 := fmod_ge (a := (((cell.fmod 2147483563 + 30011 * at_ + 19) ^ Int.toNat 3).fmod 2147483629 + 60013 * at_ * at_ + 5) ^ Int.toNat 5) (b := 2147483543) (by decide)
          have z4 := fmod_lt (a := (((cell.fmod 2147483563 + 30011 * at_ + 19) ^ Int.toNat 3).fmod 2147483629 + 60013 * at_ * at_ + 5) ^ Int.toNat 5) (b := 2147483543) (by decide)
          have y1 : 0 ≤ ((((cell.fmod 2147483563 + 30011 * at_ + 19) ^ Int.toNat 3).fmod 2147483629 + 60013 * at_ * at_ + 5) ^ Int.toNat 5).fmod 2147483543 * (at_ + 11) := Int.mul_nonneg z3 (by omega)
          have y2 : ((((cell.fmod 2147483563 + 30011 * at_ + 19) ^ Int.toNat 3).fmod 2147483629 + 60013 * at_ * at_ + 5) ^ Int.toNat 5).fmod 2147483543 * (at_ + 11) ≤ 2147483543 * 100011 := Int.mul_le_mul (by omega) (by omega) (by omega) (by decide)
          repeat (walk_at "rd")
          exact q _ _ (Go.make hc b1 e1 (by omega) (by omega) h2) (fmod_ge (by omega)) (fmod_lt (by omega))
/-- minutes that go up -/
def Rising : List Row → Prop := List.Pairwise fun r r2 => r.m ≤ r2.m
theorem rising_snoc {rs : List Row} {r : Row} (h : Rising rs) (l : ∀ q ∈ rs, q.m ≤ r.m) : Rising (rs ++ [r]) := by
  refine List.pairwise_append.mpr ⟨h, List.pairwise_singleton .., fun q hq y hy => ?_⟩
  have : y = r := by simpa using hy
  subst this
  exact l q hq
/-! ### lines, whats -/
def spLines (K : PySem.W.Frag) : Sp := fun vs H Q _ => ∃ (p c : Addr) (n : Nat), vs = [.ref p] ∧ PenAt H p c n ∧ Cells K H p c ∧ n ≤ 90000 ∧
  ∀ H' q ls, Go K p c H (n + 2) H' → H q = none → H' q = some (.lst (ls.map V.str)) → ls ≠ [] → ls.length ≤ 6 → (∀ l ∈ ls, l ∈ lines6) → Q (.ref q) H'
def six : List Str := ["port", "star", "aport", "astar", "down", "up"]
theorem six_ok : ∀ l ∈ six, l ∈ lines6 := by decide +kernel
theorem cut_len (xs : List V) (lo hi : Option Int) : (cutV xs lo hi).length ≤ xs.length := by
  unfold cutV
  rw [List.length_take, List.length_drop]
  omega
theorem lines_from {ys : List V} (h : ∀ y ∈ ys, y ∈ six.map V.str) (ne : ys ≠ []) : ∃ ls : List Str, ys = ls.map V.str ∧ ls ≠ [] ∧ ∀ l ∈ ls, l ∈ lines6 := by
  obtain ⟨ls, e, h2⟩ := strs_from h
  exact ⟨ls, e, fun z => ne (by rw [e, z]; rfl), fun l hl => six_ok l (h2 l hl)⟩
theorem ok_lines (T : Txt w K mg) : FnOk P w K mg base CX0 2 T.a_lines T.d_lines ["_law_pen"] (spLines K) := by
  have G_draw := ok_draw (P := P) (base := base) T
  refine T.F_lines.ok sc_lines (fun vs H Q E h => ?_) (fun cdv A outer s H vs Q E hr h => ?_)
  · obtain ⟨p, c, n, rfl, _⟩ := h
    rfl
  · obtain ⟨p, c, n, rfl, hp, hc, hn, k⟩ := h
    have hr_draw := hr
    refine ⟨_, (pss_cons (ps_set (i := 1) sc_lines.nd rfl (by first | exact Or.inl rfl | exact Or.inr rfl) (pe_lst (pa_cons pe_str (pa_cons pe_str (pa_cons pe_str (pa_cons pe_str (pa_cons pe_str (pa_cons pe_str pa_nil))))))))
  (pss_cons (ps_set (i := 2) sc_lines.nd rfl (by first | exact Or.inl rfl | exact Or.inr rfl) (pe_call G_draw hr_draw (by rfl) T.g_draw T.F_draw.kp T.b_draw .nil pass0 (pa_cons (pv 0) (pa_cons pe_int pa_nil))))
  (pss_one (ps_ret (pe_ix (kx_list K) (pe_lst (pa_cons (pv 1) (pa_cons (pe_slice (k_slL K) (pv 1) (po_some (pv 2)) (po_some (pe_op op_add (pv 2) pe_int))) (pa_cons (pe_op op_cat (pe_slice (k_slL K) (pv 1) po_none (po_some pe_int)) (pe_slice (k_slL K) (pv 1) (po_some pe_int) (po_some pe_int))) (pa_cons (pe_slice (k_slL K) (pv 1) (po_some pe_int) po_none) (pa_cons (pe_slice (k_slL K) (pv 1) (po_some (pe_op op_fdivN (pv 2) pe_int)) po_none) pa_nil)))))) (pe_call G_draw hr_draw (by rfl) T.g_draw T.F_draw.kp T.b_draw .nil pass0 (pa_cons (pv 0) (pa_cons pe_int pa_nil))) (fun _ _ => rfl)))))), ?_⟩
    have g0 := Go.refl hp hc
    refine ⟨(by show 6 ≤ sizeLine; decide), fun l0 hl0 => ?_⟩
    generalize hX : upd H l0 _ = H1
    obtain ⟨S1, f1⟩ := alloc hl0 hX
    clear hX
    have f1 : H1 l0 = some (.lst (six.map V.str)) := f1
    have g1 := g0.same S1
    have n0 := Ne.symm (g0.ne_new hl0)
    refine ⟨_, rfl, p, c, _, _, rfl, g1.pen, g1.cel, by omega, by decide, by decide, fun H2 f g2 a2 b2 => ?_⟩
    have G2 := g1.trans g2
    have f2 := g2.but _ _ n0 f1
    -- some[first:first + 1]
    refine ⟨_, rfl, _, rfl, _, rfl, _, rfl, _, rfl, _, _, rfl, rfl, _, rfl, l0, _, rfl, SqL.of f2, fun c1 hc1 => ?_⟩
    generalize hX : upd H2 c1 _ = H3
    obtain ⟨S3, f3⟩ := alloc hc1 hX
    clear hX
    -- some[:1] + some[2:3]
    refine ⟨_, rfl, 1, rfl, l0, _, rfl, SqL.of (S3 _ _ f2), fun c2 hc2 => ?_⟩
    generalize hX : upd H3 c2 _ = H4
    obtain ⟨S4, f4⟩ := alloc hc2 hX
    clear hX
    refine ⟨_, rfl, 2, rfl, 3, rfl, l0, _, rfl, SqL.of (S4 _ _ (S3 _ _ f2)), fun c3 hc3 => ?_⟩
    generalize hX : upd H4 c3 _ = H5
    obtain ⟨S5, f5⟩ := alloc hc3 hX
    clear hX
    refine ⟨c2, c3, _, _, rfl, rfl, S5 _ _ f4, f5, Nat.le_trans (show (cutV (six.map V.str) none (some 1)).length + (cutV (six.map V.str) (some 2) (some 3)).length ≤ 12 from Nat.add_le_add (cut_len _ _ _) (cut_len _ _ _)) (by decide), fun c4 hc4 => ?_⟩
    generalize hX : upd H5 c4 _ = H6
    obtain ⟨S6, f6⟩ := alloc hc4 hX
    clear hX
    have S26 := S3.trans (S4.trans (S5.trans S6))
    -- some[4:]
    refine ⟨_, rfl, 4, rfl, l0, _, rfl, SqL.of (S26 _ _ f2), fun c5 hc5 => ?_⟩
    generalize hX : upd H6 c5 _ = H7
    obtain ⟨S7, f7⟩ := alloc hc5 hX
    clear hX
    -- some[first // 2:]
    have fq : Int.fdiv f 2 = f / 2 := Int.fdiv_eq_ediv_of_nonneg _ (by decide)
    refine ⟨_, rfl, _, rfl, _, _, rfl, rfl, ⟨by omega, by omega⟩, _, rfl, l0, _, rfl, SqL.of (S7 _ _ (S26 _ _ f2)), fun c6 hc6 => ?_⟩
    generalize hX : upd H7 c6 _ = H8
    obtain ⟨S8, f8⟩ := alloc hc6 hX
    clear hX
    refine ⟨(by show 5 ≤ sizeLine; decide), fun c7 hc7 => ?_⟩
    generalize hX : upd H8 c7 _ = H9
    obtain ⟨S9, f9⟩ := alloc hc7 hX
    clear hX
    have S29 := S26.trans (S7.trans (S8.trans S9))
    have G9 := G2.same S29
    have n7 := Ne.symm ((G2.same (S26.trans (S7.trans S8))).ne_new hc7)
    refine ⟨_, rfl, p, c, _, _, rfl, G9.pen, G9.cel, by omega, by decide, by decide, fun Ha r ga aa ba => ?_⟩
    obtain ⟨v, hv, ev⟩ := atI_lt (xs := [V.ref l0, V.ref c1, V.ref c4, V.ref c5, V.ref c6]) aa (by show r < ((5 : Nat) : Int); exact ba)
    refine ⟨c7, _, _, _, rfl, rfl, ga.but.seqL n7 (SqL.of f9), ev, ?_⟩
    have Ga := (G9.trans ga).mono (show _ ≤ n + 2 by omega)
    have np : ∀ {u : Addr} {Hb : Hp}, Same H2 Hb → Hb u = none → u ≠ p := fun s z => Ne.symm ((G2.same s).ne_new z)
    have fin : ∀ {u : Addr} {ys : List V}, H u = none → u ≠ p → H9 u = some (.lst ys) → (∀ y ∈ ys, y ∈ six.map V.str) → ys ≠ [] → ys.length ≤ 6 → v = .ref u → (Q v Ha) := fun {u ys} hu nu hy mem ne len e => by
      obtain ⟨ls, e2, h1, h2⟩ := lines_from mem ne
      have e3 := ga.but _ _ nu hy
      rw [e2] at e3 len
      rw [List.length_map] at len
      rw [e]
      exact k Ha u ls Ga hu e3 h1 len h2
    have fr : ∀ {u : Addr} {Hb : Hp}, Same H2 Hb → Hb u = none → H u = none := fun s z => (G2.same s).free z
    obtain ⟨m, rfl⟩ := Int.eq_ofNat_of_zero_le a2
    have m6 : m < 6 := by omega
    have len6 : (six.map V.str).length = 6 := rfl
    simp only [List.mem_cons, List.not_mem_nil, or_false] at hv
    rcases hv with z | z | z | z | z
    · exact fin hl0 n0 (S29 _ _ f2) (fun y hy => hy) (by decide) (by decide) z
    · refine fin (fr (Same.refl _) hc1) (np (Same.refl _) hc1) ((S4.trans (S5.trans (S6.trans (S7.trans (S8.trans S9))))) _ _ f3) (cut_from _ _ _) (fun y => ?_) (cut_len _ _ _) z
      have := cut_one (six.map V.str) m (by rw [len6]; exact m6)
      rw [show ((m : Int) + 1) = ((m : Int) + 1) from rfl] at this
      have y2 := congrArg List.length y
      rw [this] at y2
      cases y2
    · refine fin (fr (S3.trans (S4.trans S5)) hc4) (np (S3.trans (S4.trans S5)) hc4) ((S7.trans (S8.trans S9)) _ _ f6) (fun y hy => ?_) (by decide) (by decide) z
      rcases List.mem_append.mp hy with q | q
      · exact cut_from _ _ _ y q
      · exact cut_from _ _ _ y q
    · exact fin (fr S26 hc5) (np S26 hc5) ((S8.trans S9) _ _ f7) (cut_from _ _ _) (by decide) (cut_len _ _ _) z
    · refine fin (fr (S26.trans S7) hc6) (np (S26.trans S7) hc6) (S9 _ _ f8) (cut_from _ _ _) (fun y => ?_) (cut_len _ _ _) z
      have h0 : 0 ≤ Int.fdiv (m : Int) 2 := by omega
      obtain ⟨j, hj⟩ := Int.eq_ofNat_of_zero_le h0
      have y2 := congrArg List.length y
      rw [hj, cut_drop, List.length_drop, len6] at y2
      have : 6 - j = 0 := y2
      omega
def spWhats (K : PySem.W.Frag) : Sp := fun vs H Q _ => ∃ (p c : Addr) (n : Nat), vs = [.ref p] ∧ PenAt H p c n ∧ Cells K H p c ∧ n ≤ 90000 ∧
  ∀ H' u o v (os : List Int) (ws : List Str), Go K p c H (n + 20) H' → SqT K H' u [.ref o, .ref v] → H o = none → H v = none → H' o = some (.lst (os.map V.int)) → H' v = some (.lst (ws.map V.str)) → os ≠ [] → os.length ≤ 3 → (∀ x ∈ os, -4 ≤ x ∧ x ≤ 4) → ws.length = 2 → (∀ x ∈ ws, TOk 8 x) → Q (.ref u) H'
theorem ok_whats (T : Txt w K mg) : FnOk P w K mg base CX0 2 T.a_whats T.d_whats ["_law_pen"] (spWhats K) := by
  have G_draw := ok_draw (P := P) (base := base) T
  refine T.F_whats.ok sc_whats (fun vs H Q E h => ?_) (fun cdv A outer s H vs Q E hr h => ?_)
  · obtain ⟨p, c, n, rfl, _⟩ := h
    rfl
  · obtain ⟨p, c, n, rfl, hp, hc, hn, k⟩ := h
    have hr_draw := hr
    refine ⟨_, (pss_cons (ps_set (i := 1) sc_whats.nd rfl (by first | exact Or.inl rfl | exact Or.inr rfl) (pe_op op_add pe_int (pe_call G_draw hr_draw (by rfl) T.g_draw T.F_draw.kp T.b_draw .nil pass0 (pa_cons (pv 0) (pa_cons pe_int pa_nil)))))
  (pss_cons (ps_setLc (i := 2) (own := [("_law_k", 5)]) rfl sc_whats.nd rfl rfl (sw_true rfl rfl rfl (by decide +kernel)) (pi_range1 (by rfl) T.z_range (pa_cons (pv 1) pa_nil)) (blkOk_by (own := [("_law_k", 5)]) (N := ["_law_pen", "_law_few", "_law_orders", "_law_words", "_law_first", "_law_k"]) (sc := defScope s_whats) (by decide +kernel)) (fun _ _ _ _ _ => (pg_name (i := 5) sc_whats.nd rfl (by first | exact Or.inl rfl | exact Or.inr rfl))) (fun _ _ _ _ _ => pts_nil) (fun _ _ _ _ _ => (pe_ix (kx_list K) (pe_lst (pa_cons (pe_op op_sub (pe_call G_draw hr_draw (by rfl) T.g_draw T.F_draw.kp T.b_draw .nil pass0 (pa_cons (pv 0) (pa_cons pe_int pa_nil))) pe_int) (pa_cons (pe_un un_neg pe_int) (pa_cons pe_int (pa_cons pe_int pa_nil))))) (pe_call G_draw hr_draw (by rfl) T.g_draw T.F_draw.kp T.b_draw .nil pass0 (pa_cons (pv 0) (pa_cons pe_int pa_nil))) (fun _ _ => rfl))))
  (pss_cons (ps_set (i := 3) sc_whats.nd rfl (by first | exact Or.inl rfl | exact Or.inr rfl) (pe_lst (pa_cons pe_str (pa_cons pe_str (pa_cons pe_str (pa_cons pe_str (pa_cons pe_str (pa_cons pe_str pa_nil))))))))
  (pss_cons (ps_set (i := 4) sc_whats.nd rfl (by first | exact Or.inl rfl | exact Or.inr rfl) (pe_call G_draw hr_draw (by rfl) T.g_draw T.F_draw.kp T.b_draw .nil pass0 (pa_cons (pv 0) (pa_cons pe_int pa_nil))))
  (pss_one (ps_ret (pe_tup (pa_cons (pv 2) (pa_cons (pe_lst (pa_cons (pe_ix (kx_list K) (pv 3) (pv 4) (fun _ _ => rfl)) (pa_cons (pe_ix (kx_list K) (pv 3) (pe_op op_modN (pe_op op_add (pe_op op_add (pv 4) pe_int) (pe_call G_draw hr_draw (by rfl) T.g_draw T.F_draw.kp T.b_draw .nil pass0 (pa_cons (pv 0) (pa_cons pe_int pa_nil)))) pe_int) (fun _ _ => rfl)) pa_nil))) pa_nil))))))))), ?_⟩
    have g0 := Go.refl hp hc
    refine ⟨_, rfl, p, c, _, _, rfl, hp, hc, by omega, by decide, by decide, fun H1 f g1 a1 b1 => ?_⟩
    refine ⟨_, _, rfl, rfl, ?_⟩
    refine ⟨_, rfl, _, rfl, by omega, by omega, fun D hD => ?_⟩
    have nD := Ne.symm (g1.ne_new hD)
    refine lc_it walk_range (fun i H' => Go K p c H (n + 1 + 2 * i) H' ∧ ∃ os : List Int, H' D = some (.lst (os.map V.int)) ∧ os.length = i ∧ ∀ x ∈ os, -4 ≤ x ∧ x ≤ 4)
      ⟨(g1.new hD).mono (by omega), [], upd_same, rfl, fun _ z => nomatch z⟩ (fun _ _ _ _ => trivial) ?_ ?_
    · rintro i x _ Ha hi ⟨ga, os, ea, lo, oo⟩ ⟨rfl, rfl⟩
      have hi3 : i < 3 := by omega
      refine ⟨rfl, _, rfl, p, c, _, _, rfl, ga.pen, ga.cel, by omega, by decide, by decide, fun Hb r gb a2 b2 => ?_⟩
      refine ⟨_, _, rfl, rfl, _, rfl, (by show 4 ≤ sizeLine; decide), fun l hl => ?_⟩
      generalize hX : upd Hb l _ = Hc
      obtain ⟨Sc, fc⟩ := alloc hl hX
      clear hX
      have gc := (ga.trans gb).same Sc
      have nl := Ne.symm ((ga.trans gb).ne_new hl)
      refine ⟨_, rfl, p, c, _, _, rfl, gc.pen, gc.cel, by omega, by decide, by decide, fun Hd r2 gd a3 b3 => ?_⟩
      obtain ⟨v, hv, ev⟩ := atI_lt (xs := [V.int (r - 4), V.int (-4), V.int 4, V.int 0]) a3 (by show r2 < ((4 : Nat) : Int); exact b3)
      obtain ⟨z, rfl, z0, z1⟩ : ∃ z : Int, v = .int z ∧ -4 ≤ z ∧ z ≤ 4 := by
        simp only [List.mem_cons, List.not_mem_nil, or_false] at hv
        rcases hv with q | q | q | q <;> exact ⟨_, q, by omega, by omega⟩
      refine ⟨l, _, _, _, rfl, rfl, gd.but.seqL nl (SqL.of fc), ev, _, gd.but _ _ nD (Sc _ _ (gb.but _ _ nD ea)), by rw [List.length_map, lo]; exact small1000 (by omega), ?_⟩
      refine ⟨((gc.trans gd).own (g1.free hD) nD hc).mono (by omega), os ++ [z], by rw [upd_same, List.map_append]; rfl, by rw [List.length_append, lo]; rfl, fun y hy => ?_⟩
      rcases List.mem_append.mp hy with q | q
      · exact oo y q
      · rw [List.mem_singleton.mp q]
        exact ⟨z0, z1⟩
    · rintro H2 ⟨g2, os, e2, lo, oo⟩
      have l3 : os.length ≤ 3 := by omega
      have l1 : os ≠ [] := fun z => by
        rw [z] at lo
        have : (0 : Nat) = _ := lo
        omega
      refine ⟨(by show 6 ≤ sizeLine; decide), fun wl hwl => ?_⟩
      generalize hX : upd H2 wl _ = H3
      obtain ⟨S3, f3⟩ := alloc hwl hX
      clear hX
      have g3 := g2.same S3
      have nw := Ne.symm (g2.ne_new hwl)
      let words : List Str := ["port", "stop", "none", "bridge", "abcdefgh", "z"]
      have wok : ∀ x ∈ words, TOk 8 x := by
        intro x hx
        have : x = "port" ∨ x = "stop" ∨ x = "none" ∨ x = "bridge" ∨ x = "abcdefgh" ∨ x = "z" := by simpa [words] using hx
        rcases this with rfl | rfl | rfl | rfl | rfl | rfl <;> exact ⟨by decide +kernel, by decide +kernel⟩
      refine ⟨_, rfl, p, c, _, _, rfl, g3.pen, g3.cel, by omega, by decide, by decide, fun H4 f4 g4 a4 b4 => ?_⟩
      have G4 := g3.trans g4
      have e4 : H4 wl = some (.lst (words.map V.str)) := g4.but _ _ nw f3
      obtain ⟨v1, hv1, ev1⟩ := atI_lt (xs := words.map V.str) a4 (by show f4 < ((6 : Nat) : Int); exact b4)
      obtain ⟨w1, hw1, rfl⟩ := List.mem_map.mp hv1
      refine ⟨_, rfl, _, rfl, _, rfl, wl, _, _, _, rfl, rfl, SqL.of e4, ev1, ?_⟩
      refine ⟨_, rfl, _, rfl, _, _, rfl, rfl, _, rfl, p, c, _, _, rfl, G4.pen, G4.cel, by omega, by decide, by decide, fun H5 f5 g5 a5 b5 => ?_⟩
      have G5 := G4.trans g5
      have e5 := g5.but _ _ nw e4
      obtain ⟨v2, hv2, ev2⟩ := atI_fmod (xs := words.map V.str) (i := f4 + 1 + f5) (by show 0 < 6; decide)
      obtain ⟨w2, hw2, rfl⟩ := List.mem_map.mp hv2
      have ev2 : atI (words.map V.str) (Int.fmod (f4 + 1 + f5) 6) = some (.str w2) := ev2
      refine ⟨_, _, rfl, rfl, _, _, rfl, rfl, (by show (6 : Int) ≠ 0; decide), wl, _, _, _, rfl, rfl, SqL.of e5, ev2, (by show 2 ≤ sizeLine; decide), fun q hq => ?_⟩
      generalize hX : upd H5 q _ = H6
      obtain ⟨S6, f6⟩ := alloc hq hX
      clear hX
      refine ⟨(by show 2 ≤ sizeLine; decide), fun u hu => ?_⟩
      generalize hX : upd H6 u _ = H7
      obtain ⟨S7, f7⟩ := alloc hu hX
      clear hX
      refine k H7 u D q os [w1, w2] (((G5.same S6).same S7).mono (by omega)) (SqT.of f7) (g1.free hD) (G5.free hq) (S7 _ _ (S6 _ _ (g5.but _ _ nD (g4.but _ _ nD (S3 _ _ e2))))) (S7 _ _ f6) l1 l3 oo rfl fun x hx => ?_
      have : x = w1 ∨ x = w2 := by simpa using hx
      rcases this with rfl | rfl
      · exact wok _ hw1
      · exact wok _ hw2
/-! ### both logs -/
theorem rows_of {K : PySem.W.Frag} {H : Hp} : ∀ {as : List Addr}, (∀ a ∈ as, ∃ r, RowAt K H a r ∧ r.Ok) → ∃ rs, RowsAt K H as rs ∧ ∀ r ∈ rs, r.Ok
  | [], _ => ⟨[], .nil, fun _ z => nomatch z⟩
  | a :: as, h => by
    obtain ⟨r, h1, h2⟩ := h a (List.mem_cons_self ..)
    obtain ⟨rs, h3, h4⟩ := rows_of fun b hb => h b (List.mem_cons_of_mem _ hb)
    refine ⟨r :: rs, .cons h1 h3, fun q hq => ?_⟩
    rcases List.mem_cons.mp hq with z | z
    · rw [z]
      exact h2
    · exact h4 q z
theorem rows_keys {K : PySem.W.Frag} {H : Hp} {as : List Addr} {rs : List Row} (h : RowsAt K H as rs) (ok : ∀ r ∈ rs, r.Ok) : ∃ bs : List (Addr × Int), bs.map (·.1) = as ∧ ∀ b ∈ bs, ∃ r, RowAt K H b.1 r ∧ r.m = b.2 ∧ r.Ok := by
  induction h with
  | nil => exact ⟨[], rfl, fun _ z => nomatch z⟩
  | @cons a r as rs h1 _ ih =>
    obtain ⟨bs, e, h2⟩ := ih fun q hq => ok q (List.mem_cons_of_mem _ hq)
    refine ⟨(a, r.m) :: bs, by rw [List.map_cons, e], fun b hb => ?_⟩
    rcases List.mem_cons.mp hb with z | z
    · rw [z]
      exact ⟨r, h1, rfl, ok r (List.mem_cons_self ..)⟩
    · exact h2 b z
/-- rows at keyed places, sorted by their keys -/
theorem rows_byFst {K : PySem.W.Frag} {H : Hp} : ∀ {ks : List (Addr × Int)}, (∀ b ∈ ks, ∃ r, RowAt K H b.1 r ∧ r.m = b.2 ∧ r.Ok) → ks.Pairwise (fun a b => a.2 ≤ b.2) → ∃ rs, RowsAt K H (ks.map (·.1)) rs ∧ (∀ r ∈ rs, r.Ok) ∧ Rising rs ∧ ∀ r ∈ rs, ∃ b ∈ ks, r.m = b.2
  | [], _, _ => ⟨[], .nil, (fun _ z => nomatch z), List.Pairwise.nil, (fun _ z => nomatch z)⟩
  | k :: ks, h, s => by
    obtain ⟨r, h1, h2, h3⟩ := h k (List.mem_cons_self ..)
    have s' := List.pairwise_cons.mp s
    obtain ⟨rs, a1, a2, a3, a4⟩ := rows_byFst (fun b hb => h b (List.mem_cons_of_mem _ hb)) s'.2
    refine ⟨r :: rs, .cons h1 a1, fun q hq => ?_, .cons (fun q hq => ?_) a3, fun q hq => ?_⟩
    · rcases List.mem_cons.mp hq with z | z
      · rw [z]
        exact h3
      · exact a2 q z
    · obtain ⟨b, hb, e⟩ := a4 q hq
      rw [h2, e]
      exact s'.1 b hb
    · rcases List.mem_cons.mp hq with z | z
      · exact ⟨k, List.mem_cons_self .., by rw [z, h2]⟩
      · obtain ⟨b, hb, e⟩ := a4 q z
        exact ⟨b, List.mem_cons_of_mem _ hb, e⟩
def clampM (t : Int) : Int := if (if t > 0 then t else 0) < 99999 then (if t > 0 then t else 0) else 99999
theorem clamp_ok (t : Int) : 0 ≤ clampM t ∧ clampM t ≤ 99999 := by
  unfold clampM
  constructor <;> repeat' split
  all_goals omega
theorem clamp_mono {t u : Int} (h : t ≤ u) : clampM t ≤ clampM u := by
  unfold clampM
  repeat' split
  all_goals omega
/-- both logs while they are made -/
structure TwoS (K : PySem.W.Frag) (p c : Addr) (H0 : Hp) (L O W D E : Addr) (ls : List Str) (os : List Int) (ws : List Str) (bs : List Addr) (qs : List Row) (cs : List Addr) (rs : List Row) (m : Nat) (H : Hp) : Prop where
  go : Go K p c H0 m H
  eL : H L = some (.lst (ls.map V.str))
  eO : H O = some (.lst (os.map V.int))
  eW : H W = some (.lst (ws.map V.str))
  eD : H D = some (.lst (bs.map V.ref))
  eE : H E = some (.lst (cs.map V.ref))
  rD : RowsAt K H bs qs
  rE : RowsAt K H cs rs
structure TwoN (p L O W D E : Addr) : Prop where
  pL : L ≠ p
  pO : O ≠ p
  pW : W ≠ p
  pD : D ≠ p
  pE : E ≠ p
  LD : L ≠ D
  OD : O ≠ D
  WD : W ≠ D
  ED : E ≠ D
  LE : L ≠ E
  OE : O ≠ E
  WE : W ≠ E
section
variable {K : PySem.W.Frag} {p c L O W D E a : Addr} {H0 H H1 : Hp} {ls ws : List Str} {os : List Int} {bs cs : List Addr} {qs rs : List Row} {m k : Nat} {r : Row}
theorem TwoS.mono (h : TwoS K p c H0 L O W D E ls os ws bs qs cs rs m H) (l : m ≤ k) : TwoS K p c H0 L O W D E ls os ws bs qs cs rs k H := { h with go := h.go.mono l }
theorem TwoS.same (h : TwoS K p c H0 L O W D E ls os ws bs qs cs rs m H) (S : Same H H1) : TwoS K p c H0 L O W D E ls os ws bs qs cs rs m H1 := ⟨h.go.same S, S _ _ h.eL, S _ _ h.eO, S _ _ h.eW, S _ _ h.eD, S _ _ h.eE, h.rD.same S, h.rE.same S⟩
theorem TwoS.step (h : TwoS K p c H0 L O W D E ls os ws bs qs cs rs m H) (N : TwoN p L O W D E) (g : Go K p c H k H1) : TwoS K p c H0 L O W D E ls os ws bs qs cs rs k H1 :=
  ⟨h.go.trans g, g.but _ _ N.pL h.eL, g.but _ _ N.pO h.eO, g.but _ _ N.pW h.eW, g.but _ _ N.pD h.eD, g.but _ _ N.pE h.eE, h.rD.go h.go.pen g.but, h.rE.go h.go.pen g.but⟩
theorem TwoS.putD (h : TwoS K p c H0 L O W D E ls os ws bs qs cs rs m H) (N : TwoN p L O W D E) (f : H0 D = none) (hc : Cells K H0 p c) (hr : RowAt K H a r) : TwoS K p c H0 L O W D E ls os ws (bs ++ [a]) (qs ++ [r]) cs rs m (upd H D (.lst (bs.map V.ref ++ [V.ref a]))) :=
  ⟨h.go.own f N.pD hc, (upd_ne N.LD).trans h.eL, (upd_ne N.OD).trans h.eO, (upd_ne N.WD).trans h.eW, by rw [upd_same, List.map_append]; rfl, (upd_ne N.ED).trans h.eE, (h.rD.snoc hr).lst h.eD But.put, h.rE.lst h.eD But.put⟩
theorem TwoS.putE (h : TwoS K p c H0 L O W D E ls os ws bs qs cs rs m H) (N : TwoN p L O W D E) (f : H0 E = none) (hc : Cells K H0 p c) (hr : RowAt K H a r) : TwoS K p c H0 L O W D E ls os ws bs qs (cs ++ [a]) (rs ++ [r]) m (upd H E (.lst (cs.map V.ref ++ [V.ref a]))) :=
  ⟨h.go.own f N.pE hc, (upd_ne N.LE).trans h.eL, (upd_ne N.OE).trans h.eO, (upd_ne N.WE).trans h.eW, (upd_ne (Ne.symm N.ED)).trans h.eD, by rw [upd_same, List.map_append]; rfl, h.rD.lst h.eE But.put, (h.rE.snoc hr).lst h.eE But.put⟩
end
theorem in_strs {x : Str} {ls : List Str} : inV (V.str x) (ls.map V.str) = decide (x ∈ ls) := by
  rw [Bool.eq_iff_iff, decide_eq_true_eq]
  induction ls with
  | nil => simp [inV]
  | cons y ys ih =>
    rw [List.map_cons, List.mem_cons, ← ih]
    simp only [inV, List.any_cons, eqV, Bool.or_eq_true, beq_iff_eq]
    constructor
    · rintro (z | z)
      · exact .inl z.symm
      · exact .inr z
    · rintro (z | z)
      · exact .inl z.symm
      · exact .inr z
def spTwo (Tl : List (Addr × Str)) (K : PySem.W.Frag) : Sp := fun vs H Q _ => ∃ (p c : Addr) (n : Nat) (most : Int), vs = [.ref p, .int most] ∧ PenAt H p c n ∧ Cells K H p c ∧ n ≤ 80000 ∧ 1 ≤ most ∧ most ≤ 40 ∧ Tabs Tl H ∧
  ∀ H' u ta tb (far slow : Int) (A B : List Row), GoN K Tl p c H (n + 400) H' → SqT K H' u [.ref ta, .ref tb, .int far, .int slow] → LogAt K H' ta A → LogAt K H' tb B → A.length ≤ 40 → B.length ≤ 40 → (∀ r ∈ A, r.Ok) → (∀ r ∈ B, r.Ok) → Rising A → Rising B → -1440 ≤ far → far ≤ 1440 → 0 ≤ slow → slow ≤ 60 → Q (.ref u) H'
theorem ok_two (T : Txt w K mg) (TB_two : TabB base mg T.cc_two (tabOf K T.cc_two)) : FnOk P w K mg base CX0 3 T.a_two T.d_two ["_law_pen", "_law_most"] (spTwo (tabsT T) K) := by
  have G_draw := ok_draw (P := P) (base := base) T
  have G_lines := ok_lines (P := P) (base := base) T
  have G_whats := ok_whats (P := P) (base := base) T
  refine okC T.F_two T.cd_two sc_two (fun vs H Q E h => ?_) (fun A outer s H vs Q E hr h => ?_)
  · obtain ⟨p, c, n, most, rfl, _⟩ := h
    rfl
  · obtain ⟨p, c, n, most, rfl, hp, hc, hn, m0, m1, tabs, k⟩ := h
    have hr_draw := hr.mono (show 1 ≤ 2 by decide)
    have hr_lines := hr
    have hr_whats := hr
    have hr_lam : Room (0 + 2) _ := hr
    refine ⟨_, (pss_cons (ps_set (i := 2) sc_two.nd rfl (by first | exact Or.inl rfl | exact Or.inr rfl) (pe_ix (kx_list K) (pe_lst (pa_cons pe_int (pa_cons pe_int (pa_cons pe_int (pa_cons pe_int (pa_cons (pe_call G_draw hr_draw (by rfl) T.g_draw T.F_draw.kp T.b_draw .nil pass0 (pa_cons (pv 0) (pa_cons pe_int pa_nil))) pa_nil)))))) (pe_call G_draw hr_draw (by rfl) T.g_draw T.F_draw.kp T.b_draw .nil pass0 (pa_cons (pv 0) (pa_cons pe_int pa_nil))) (fun _ _ => rfl)))
  (pss_cons (ps_set (i := 3) sc_two.nd rfl (by first | exact Or.inl rfl | exact Or.inr rfl) (pe_ix (kx_list K) (pe_lst (pa_cons pe_int (pa_cons (pe_op op_sub (pe_call G_draw hr_draw (by rfl) T.g_draw T.F_draw.kp T.b_draw .nil pass0 (pa_cons (pv 0) (pa_cons pe_int pa_nil))) pe_int) (pa_cons (pe_op op_sub (pe_call G_draw hr_draw (by rfl) T.g_draw T.F_draw.kp T.b_draw .nil pass0 (pa_cons (pv 0) (pa_cons pe_int pa_nil))) pe_int) (pa_cons pe_int (pa_cons (pe_un un_neg pe_int) pa_nil)))))) (pe_call G_draw hr_draw (by rfl) T.g_draw T.F_draw.kp T.b_draw .nil pass0 (pa_cons (pv 0) (pa_cons pe_int pa_nil))) (fun _ _ => rfl)))
  (pss_cons (ps_set (i := 4) sc_two.nd rfl (by first | exact Or.inl rfl | exact Or.inr rfl) (pe_call G_lines hr_lines (by rfl) T.g_lines T.F_lines.kp T.b_lines .nil pass0 (pa_cons (pv 0) pa_nil)))
  (pss_cons (ps_asg (pe_call G_whats hr_whats (by rfl) T.g_whats T.F_whats.kp T.b_whats .nil pass0 (pa_cons (pv 0) pa_nil)) (k_pgT (n := 2) K rfl (pgs_cons (pg_name (i := 5) sc_two.nd rfl (by first | exact Or.inl rfl | exact Or.inr rfl)) (pgs_cons (pg_name (i := 6) sc_two.nd rfl (by first | exact Or.inl rfl | exact Or.inr rfl)) pgs_nil))))
  (pss_cons (ps_set (i := 7) sc_two.nd rfl (by first | exact Or.inl rfl | exact Or.inr rfl) (pe_ix (kx_list K) (pe_lst (pa_cons (pe_callB (call_max2 rfl) (by rfl) T.z_max (by decide +kernel) (pa_cons pe_int (pa_cons (pe_op op_sub pe_int (pv 3)) pa_nil))) (pa_cons (pe_op op_add pe_int (pe_call G_draw hr_draw (by rfl) T.g_draw T.F_draw.kp T.b_draw .nil pass0 (pa_cons (pv 0) (pa_cons pe_int pa_nil)))) (pa_cons (pe_op op_sub pe_int (pe_callB (call_max2 rfl) (by rfl) T.z_max (by decide +kernel) (pa_cons pe_int (pa_cons (pv 3) pa_nil)))) pa_nil)))) (pe_call G_draw hr_draw (by rfl) T.g_draw T.F_draw.kp T.b_draw .nil pass0 (pa_cons (pv 0) (pa_cons pe_int pa_nil))) (fun _ _ => rfl)))
  (pss_cons (ps_set (i := 8) sc_two.nd rfl (by first | exact Or.inl rfl | exact Or.inr rfl) (pe_lst pa_nil))
  (pss_cons (ps_set (i := 9) sc_two.nd rfl (by first | exact Or.inl rfl | exact Or.inr rfl) (pe_lst pa_nil))
  (pss_cons (ps_for PassesOwn.never rfl (pi_range1 (by rfl) T.z_range (pa_cons (pe_ix (kx_list K) (pe_lst (pa_cons (pv 1) (pa_cons (pe_call G_draw hr_draw (by rfl) T.g_draw T.F_draw.kp T.b_draw .nil pass0 (pa_cons (pv 0) (pa_cons (pe_op op_add (pv 1) pe_int) pa_nil))) (pa_cons (pe_op op_add pe_int (pe_op op_fdivN (pv 1) pe_int)) pa_nil)))) (pe_call G_draw hr_draw (by rfl) T.g_draw T.F_draw.kp T.b_draw .nil pass0 (pa_cons (pv 0) (pa_cons pe_int pa_nil))) (fun _ _ => rfl)) pa_nil)) (pg_name (i := 10) sc_two.nd rfl (by first | exact Or.inl rfl | exact Or.inr rfl)) (pss_cons (ps_set (i := 7) sc_two.nd rfl (by first | exact Or.inl rfl | exact Or.inr rfl) (pe_op op_add (pv 7) (pe_ix (kx_list K) (pe_lst (pa_cons pe_int (pa_cons pe_int (pa_cons pe_int (pa_cons pe_int (pa_cons (pe_call G_draw hr_draw (by rfl) T.g_draw T.F_draw.kp T.b_draw .nil pass0 (pa_cons (pv 0) (pa_cons (pe_op op_add (pv 2) pe_int) pa_nil))) pa_nil)))))) (pe_call G_draw hr_draw (by rfl) T.g_draw T.F_draw.kp T.b_draw .nil pass0 (pa_cons (pv 0) (pa_cons pe_int pa_nil))) (fun _ _ => rfl))))
  (pss_cons (ps_set (i := 11) sc_two.nd rfl (by first | exact Or.inl rfl | exact Or.inr rfl) (pe_ix (kx_list K) (pv 4) (pe_call G_draw hr_draw (by rfl) T.g_draw T.F_draw.kp T.b_draw .nil pass0 (pa_cons (pv 0) (pa_cons (pe_callB (k_len K) (by rfl) T.z_len (by decide +kernel) (pa_cons (pv 4) pa_nil)) pa_nil))) (fun _ _ => rfl)))
  (pss_cons (ps_set (i := 12) sc_two.nd rfl (by first | exact Or.inl rfl | exact Or.inr rfl) (pe_ix (kx_list K) (pv 5) (pe_call G_draw hr_draw (by rfl) T.g_draw T.F_draw.kp T.b_draw .nil pass0 (pa_cons (pv 0) (pa_cons (pe_callB (k_len K) (by rfl) T.z_len (by decide +kernel) (pa_cons (pv 5) pa_nil)) pa_nil))) (fun _ _ => rfl)))
  (C8.pss_cut (ps_if (pt_cmpR (k_in K) (pv 11) (pe_tup (pa_cons pe_str (pa_cons pe_str pa_nil))) (by rfl)) (pss_one (ps_set (i := 12) sc_two.nd rfl (by first | exact Or.inl rfl | exact Or.inr rfl) (pe_ix (kx_list K) (pv 6) (pe_call G_draw hr_draw (by rfl) T.g_draw T.F_draw.kp T.b_draw .nil pass0 (pa_cons (pv 0) (pa_cons pe_int pa_nil))) (fun _ _ => rfl)))) pss_nil)
  (pss_cons (ps_set (i := 13) sc_two.nd rfl (by first | exact Or.inl rfl | exact Or.inr rfl) (pe_call G_draw hr_draw (by rfl) T.g_draw T.F_draw.kp T.b_draw .nil pass0 (pa_cons (pv 0) (pa_cons pe_int pa_nil))))
  (pss_cons (ps_set (i := 14) sc_two.nd rfl (by first | exact Or.inl rfl | exact Or.inr rfl) (pe_op op_add (pe_call G_draw hr_draw (by rfl) T.g_draw T.F_draw.kp T.b_draw .nil pass0 (pa_cons (pv 0) (pa_cons (pe_op op_add (pv 2) pe_int) pa_nil))) (pe_op op_mul (pe_callTy call_int1 (by rfl) T.z_int (by decide +kernel) (pa_cons (pe_cmpR op_eq (pv 13) pe_int (nomark _)) pa_nil)) (pe_op op_add (pv 2) pe_int))))
  (C8.pss_cut (ps_if (pt_cmpR (k_in K) (pv 11) (pe_tup (pa_cons pe_str (pa_cons pe_str (pa_cons pe_str pa_nil)))) (by rfl)) (pss_one (ps_set (i := 14) sc_two.nd rfl (by first | exact Or.inl rfl | exact Or.inr rfl) (pe_op op_sub pe_int (pv 14)))) pss_nil)
  (C8.pss_cut (ps_if (pt_cmpR op_ne (pv 13) pe_int (nomark _)) (pss_one (ps_expr (pe_bm PySem.F.plainAttrs_list PySem.F.slot_list_append PySem.F.type_list_append mt_append (pv 8) (pa_cons (pe_tup (pa_cons (pe_callB (call_min2 rfl) (by rfl) T.z_min (by decide +kernel) (pa_cons pe_int (pa_cons (pe_callB (call_max2 rfl) (by rfl) T.z_max (by decide +kernel) (pa_cons pe_int (pa_cons (pv 7) pa_nil))) pa_nil))) (pa_cons (pv 11) (pa_cons (pv 12) pa_nil)))) pa_nil)))) pss_nil)
  (pss_one (ps_if (pt_cmpR op_ne (pv 13) pe_int (nomark _)) (pss_one (ps_expr (pe_bm PySem.F.plainAttrs_list PySem.F.slot_list_append PySem.F.type_list_append mt_append (pv 9) (pa_cons (pe_tup (pa_cons (pe_callB (call_min2 rfl) (by rfl) T.z_min (by decide +kernel) (pa_cons pe_int (pa_cons (pe_callB (call_max2 rfl) (by rfl) T.z_max (by decide +kernel) (pa_cons pe_int (pa_cons (pe_op op_add (pe_op op_add (pv 7) (pv 3)) (pv 14)) pa_nil))) pa_nil))) (pa_cons (pv 11) (pa_cons (pv 12) pa_nil)))) pa_nil)))) pss_nil)))))))))))
  (pss_cons (ps_set (i := 9) sc_two.nd rfl (by first | exact Or.inl rfl | exact Or.inr rfl) (pe_sortR K (by rfl) T.z_sorted TB_two rfl (tab_in_two T) (tab_un_two T) hr_lam (pv 9)))
  (pss_one (ps_ret (pe_tup (pa_cons (pe_callTy (k_tupOf K) (by rfl) T.z_tuple (by decide +kernel) (pa_cons (pv 8) pa_nil)) (pa_cons (pe_callTy (k_tupOf K) (by rfl) T.z_tuple (by decide +kernel) (pa_cons (pv 9) pa_nil)) (pa_cons (pv 3) (pa_cons (pv 2) pa_nil)))))))))))))))), ?_⟩
    have g0 := Go.refl hp hc
    -- the lag
    refine ⟨_, rfl, p, c, _, _, rfl, hp, hc, by omega, by decide, by decide, fun H1 r1 g1 a1 b1 => ?_⟩
    refine ⟨(by show 5 ≤ sizeLine; decide), fun l1 hl1 => ?_⟩
    generalize hX : upd H1 l1 _ = H2
    obtain ⟨S2, f2⟩ := alloc hl1 hX
    clear hX
    have G2 := g1.same S2
    have n1 := Ne.symm (g1.ne_new hl1)
    refine ⟨_, rfl, p, c, _, _, rfl, G2.pen, G2.cel, by omega, by decide, by decide, fun H3 r3 g3 a3 b3 => ?_⟩
    have G3 := G2.trans g3
    obtain ⟨v3, hv3, ev3⟩ := atI_lt (xs := [V.int 0, V.int 1, V.int 3, V.int 60, V.int r1]) a3 (by show r3 < ((5 : Nat) : Int); exact b3)
    obtain ⟨slow, rfl, s0, s1⟩ : ∃ z : Int, v3 = .int z ∧ 0 ≤ z ∧ z ≤ 60 := by
      simp only [List.mem_cons, List.not_mem_nil, or_false] at hv3
      rcases hv3 with q | q | q | q | q <;> exact ⟨_, q, by omega, by omega⟩
    refine ⟨l1, _, _, _, rfl, rfl, g3.but.seqL n1 (SqL.of f2), ev3, ?_⟩
    -- how far the clocks are apart
    refine ⟨_, rfl, p, c, _, _, rfl, G3.pen, G3.cel, by omega, by decide, by decide, fun H4 r4 g4 a4 b4 => ?_⟩
    have G4 := G3.trans g4
    refine ⟨_, _, rfl, rfl, _, rfl, p, c, _, _, rfl, G4.pen, G4.cel, by omega, by decide, by decide, fun H5 r5 g5 a5 b5 => ?_⟩
    have G5 := G4.trans g5
    refine ⟨_, _, rfl, rfl, _, rfl, (by show 5 ≤ sizeLine; decide), fun l2 hl2 => ?_⟩
    generalize hX : upd H5 l2 _ = H6
    obtain ⟨S6, f6⟩ := alloc hl2 hX
    clear hX
    have G6 := G5.same S6
    have n2 := Ne.symm (G5.ne_new hl2)
    refine ⟨_, rfl, p, c, _, _, rfl, G6.pen, G6.cel, by omega, by decide, by decide, fun H7 r7 g7 a7 b7 => ?_⟩
    have G7 := G6.trans g7
    obtain ⟨v7, hv7, ev7⟩ := atI_lt (xs := [V.int 0, V.int (r4 - 4), V.int (r5 - 1440), V.int 1440, V.int (-1440)]) a7 (by show r7 < ((5 : Nat) : Int); exact b7)
    obtain ⟨far, rfl, e0, e1⟩ : ∃ z : Int, v7 = .int z ∧ -1440 ≤ z ∧ z ≤ 1440 := by
      simp only [List.mem_cons, List.not_mem_nil, or_false] at hv7
      rcases hv7 with q | q | q | q | q <;> exact ⟨_, q, by omega, by omega⟩
    refine ⟨l2, _, _, _, rfl, rfl, g7.but.seqL n2 (SqL.of f6), ev7, ?_⟩
    -- lines and whats
    refine ⟨_, rfl, p, c, _, rfl, G7.pen, G7.cel, by omega, fun H8 L ls g8 hL eL nl ll kl => ?_⟩
    have G8 := G7.trans g8
    have pL := Ne.symm (G7.ne_new hL)
    refine ⟨_, rfl, p, c, _, rfl, G8.pen, G8.cel, by omega, fun H9 u9 O W os ws g9 hu9 hO hW eO eW no lo ko lw kw => ?_⟩
    have G9 := G8.trans g9
    have pO := Ne.symm (G8.ne_new hO)
    have pW := Ne.symm (G8.ne_new hW)
    have eL9 := g9.but _ _ pL eL
    refine ⟨u9, _, rfl, hu9, rfl, ?_⟩
    -- where the clocks begin
    refine ⟨_, _, rfl, _, _, rfl, rfl, ?_⟩
    refine ⟨_, rfl, _, _, rfl, rfl, _, _, rfl, ?_⟩
    refine ⟨_, rfl, p, c, _, _, rfl, G9.pen, G9.cel, by omega, by decide, by decide, fun H10 r10 g10 a10 b10 => ?_⟩
    have G10 := G9.trans g10
    refine ⟨_, _, rfl, rfl, _, rfl, _, _, rfl, _, _, rfl, rfl, (by show 3 ≤ sizeLine; decide), fun l3 hl3 => ?_⟩
    generalize hX : upd H10 l3 _ = H11
    obtain ⟨S11, f11⟩ := alloc hl3 hX
    clear hX
    have G11 := G10.same S11
    have n3 := Ne.symm (G10.ne_new hl3)
    refine ⟨_, rfl, p, c, _, _, rfl, G11.pen, G11.cel, by omega, by decide, by decide, fun H12 r12 g12 a12 b12 => ?_⟩
    have G12 := G11.trans g12
    obtain ⟨v12, hv12, ev12⟩ := atI_lt (xs := [V.int (if 0 - far > 0 then 0 - far else 0), V.int (2000 + r10), V.int (99990 - (if far > 0 then far else 0))]) a12 (by show r12 < ((3 : Nat) : Int); exact b12)
    obtain ⟨at0, rfl⟩ : ∃ z : Int, v12 = .int z := by
      simp only [List.mem_cons, List.not_mem_nil, or_false] at hv12
      rcases hv12 with q | q | q <;> exact ⟨_, q⟩
    refine ⟨l3, _, _, _, rfl, rfl, g12.but.seqL n3 (SqL.of f11), ev12, ?_⟩
    have keep : ∀ {u : Addr} {o : HO}, u ≠ p → H9 u = some o → H12 u = some o := fun hu e => g12.but _ _ hu (S11 _ _ (g10.but _ _ hu e))
    have eL12 := keep pL eL9
    have eO12 := keep pO eO
    have eW12 := keep pW eW
    -- the lists that are filled
    refine ⟨(by show 0 ≤ sizeLine; decide), fun D hD => ?_⟩
    generalize hX : upd H12 D _ = H13
    obtain ⟨S13, f13⟩ := alloc hD hX
    clear hX
    have G13 := G12.same S13
    have pD := Ne.symm (G12.ne_new hD)
    refine ⟨(by show 0 ≤ sizeLine; decide), fun E hE => ?_⟩
    generalize hX : upd H13 E _ = H14
    obtain ⟨S14, f14⟩ := alloc hE hX
    clear hX
    have G14 := G13.same S14
    have pE := Ne.symm (G13.ne_new hE)
    have N : TwoN p L O W D E := ⟨pL, pO, pW, pD, pE, ne_of_none eL12 hD, ne_of_none eO12 hD, ne_of_none eW12 hD, Ne.symm (ne_of_none f13 hE), ne_of_none (S13 _ _ eL12) hE, ne_of_none (S13 _ _ eO12) hE, ne_of_none (S13 _ _ eW12) hE⟩
    have frD := G12.free hD
    have frE := G13.free hE
    -- how many
    refine ⟨_, rfl, _, rfl, _, rfl, _, _, rfl, rfl, p, c, _, _, rfl, G14.pen, G14.cel, by omega, by omega, by omega, fun H15 r15 g15 a15 b15 => ?_⟩
    have G15 := G14.trans g15
    have mq : Int.fdiv most 2 = most / 2 := Int.fdiv_eq_ediv_of_nonneg _ (by decide)
    refine ⟨_, rfl, _, _, rfl, rfl, ⟨by omega, by omega⟩, _, _, rfl, rfl, (by show 3 ≤ sizeLine; decide), fun l4 hl4 => ?_⟩
    generalize hX : upd H15 l4 _ = H16
    obtain ⟨S16, f16⟩ := alloc hl4 hX
    clear hX
    have G16 := G15.same S16
    have n4 := Ne.symm (G15.ne_new hl4)
    refine ⟨_, rfl, p, c, _, _, rfl, G16.pen, G16.cel, by omega, by decide, by decide, fun H17 r17 g17 a17 b17 => ?_⟩
    have G17 := G16.trans g17
    obtain ⟨v17, hv17, ev17⟩ := atI_lt (xs := [V.int most, V.int r15, V.int (1 + Int.fdiv most 2)]) a17 (by show r17 < ((3 : Nat) : Int); exact b17)
    obtain ⟨many, rfl, y0, y1⟩ : ∃ z : Int, v17 = .int z ∧ 0 ≤ z ∧ z ≤ 40 := by
      simp only [List.mem_cons, List.not_mem_nil, or_false] at hv17
      rcases hv17 with q | q | q <;> exact ⟨_, q, by omega, by omega⟩
    refine ⟨l4, _, _, _, rfl, rfl, g17.but.seqL n4 (SqL.of f16), ev17, many, rfl, by omega, by omega, ?_⟩
    have Z0 : TwoS K p c H L O W D E ls os ws [] [] [] [] (n + 60) H14 := ⟨G14.mono (by omega), S14 _ _ (S13 _ _ eL12), S14 _ _ (S13 _ _ eO12), S14 _ _ (S13 _ _ eW12), S14 _ _ f13, f14, .nil, .nil⟩
    have Z1 := ((Z0.step N (G14.self.trans g15)).same S16).step N (G16.self.trans g17)
    have ll1 : 1 ≤ ls.length := by
      cases ls with
      | nil => exact (nl rfl).elim
      | cons _ _ => exact Nat.succ_le_succ (Nat.zero_le _)
    have lo1 : 1 ≤ os.length := by
      cases os with
      | nil => exact (no rfl).elim
      | cons _ _ => exact Nat.succ_le_succ (Nat.zero_le _)
    refine for_it walk_range (fun i σ H' => ∃ (t : Int) (x10 x11 x12 x13 x14 : Option V) (bs cs : List Addr) (qs rs : List Row), σ = [some (.ref p), some (.int most), some (.int slow), some (.int far), some (.ref L), some (.ref O), some (.ref W), some (.int t), some (.ref D), some (.ref E), x10, x11, x12, x13, x14] ∧
        TwoS K p c H L O W D E ls os ws bs qs cs rs (n + 70 + 8 * i) H' ∧ qs.length ≤ i ∧ rs.length ≤ i ∧ (∀ r ∈ qs, r.Ok) ∧ (∀ r ∈ rs, r.Ok) ∧ Rising qs ∧ ∀ r ∈ qs, r.m ≤ clampM t)
      ⟨at0, none, none, none, none, none, [], [], [], [], rfl, Z1.mono (by omega), Nat.le_refl _, Nat.le_refl _, (fun _ z => nomatch z), (fun _ z => nomatch z), List.Pairwise.nil, (fun _ z => nomatch z)⟩ (fun _ _ _ _ _ => trivial) ?_ ?_
    · rintro i x σ _ Ha hi ⟨t, x10, x11, x12, x13, x14, bs, cs, qs, rs, rfl, Za, la, lb, oka, okb, ris, lst⟩ ⟨rfl, rfl⟩
      have hi40 : i < 40 := by omega
      -- the minute
      refine ⟨_, rfl, _, rfl, _, rfl, _, _, rfl, rfl, p, c, _, _, rfl, Za.go.pen, Za.go.cel, by omega, by omega, by omega, fun Hb rb gb ab bb => ?_⟩
      have Zb := Za.step N gb
      refine ⟨(by show 5 ≤ sizeLine; decide), fun l5 hl5 => ?_⟩
      generalize hX : upd Hb l5 _ = Hc
      obtain ⟨Sc, fc⟩ := alloc hl5 hX
      clear hX
      have n5 := Ne.symm (Zb.go.ne_new hl5)
      have Zc := Zb.same Sc
      refine ⟨_, rfl, p, c, _, _, rfl, Zc.go.pen, Zc.go.cel, by omega, by decide, by decide, fun Hd rd gd ad bd => ?_⟩
      have Zd := Zc.step N gd
      obtain ⟨vd, hvd, evd⟩ := atI_lt (xs := [V.int 0, V.int 0, V.int 1, V.int 2, V.int rb]) ad (by show rd < ((5 : Nat) : Int); exact bd)
      obtain ⟨z, rfl, z0⟩ : ∃ z : Int, vd = .int z ∧ 0 ≤ z := by
        simp only [List.mem_cons, List.not_mem_nil, or_false] at hvd
        rcases hvd with q | q | q | q | q <;> exact ⟨_, q, by omega⟩
      refine ⟨l5, _, _, _, rfl, rfl, gd.but.seqL n5 (SqL.of fc), evd, _, _, rfl, rfl, ?_⟩
      have lst2 : ∀ r ∈ qs, r.m ≤ clampM (t + z) := fun r hr => Int.le_trans (lst r hr) (clamp_mono (by omega))
      -- the line
      refine ⟨_, rfl, _, rfl, _, rfl, L, _, rfl, .inl (SqL.of Zd.eL), p, c, _, _, rfl, Zd.go.pen, Zd.go.cel, by omega, (by rw [List.length_map]; omega), (by rw [List.length_map]; omega), fun He re ge ae be => ?_⟩
      have Ze := Zd.step N ge
      obtain ⟨ve, hve, eve⟩ := atI_lt (xs := ls.map V.str) ae be
      obtain ⟨ln, hln, rfl⟩ := List.mem_map.mp hve
      refine ⟨L, _, _, _, rfl, rfl, SqL.of Ze.eL, eve, ?_⟩
      -- the what
      refine ⟨_, rfl, _, rfl, _, rfl, O, _, rfl, .inl (SqL.of Ze.eO), p, c, _, _, rfl, Ze.go.pen, Ze.go.cel, by omega, (by rw [List.length_map]; omega), (by rw [List.length_map]; omega), fun Hf rf gf af bf => ?_⟩
      have Zf := Ze.step N gf
      obtain ⟨vf, hvf, evf⟩ := atI_lt (xs := os.map V.int) af bf
      obtain ⟨od, hod, rfl⟩ := List.mem_map.mp hvf
      refine ⟨O, _, _, _, rfl, rfl, SqL.of Zf.eO, evf, ?_⟩
      have lnk := kl ln hln
      have odk := ko od hod
      refine ⟨fun σ' H' => ∃ what : What, σ' = [some (.ref p), some (.int most), some (.int slow), some (.int far), some (.ref L), some (.ref O), some (.ref W), some (.int (t + z)), some (.ref D), some (.ref E), some (.int (0 + i)), some (.str ln), some what.v, x13, x14] ∧ TwoS K p c H L O W D E ls os ws bs qs cs rs (n + 70 + 8 * i + 5) H' ∧
        ((ln ∈ tubes ∧ ∃ t, what = .name t ∧ TOk 8 t) ∨ (ln ∉ tubes ∧ ∃ i, what = .order i ∧ -4 ≤ i ∧ i ≤ 4)), ?_, ?_⟩
      · refine ⟨_, rfl, (by show 2 ≤ sizeLine; decide), fun t6 ht6 => ?_⟩
        generalize hX : upd Hf t6 _ = Hg
        obtain ⟨Sg, fg⟩ := alloc ht6 hX
        clear hX
        have Zg := Zf.same Sg
        refine ⟨t6, _, rfl, .inr (SqT.of fg), rfl, rfl, ?_⟩
        have inT : inV (V.str ln) [V.str (Str.ofString "down"), V.str (Str.ofString "up")] = decide (ln ∈ tubes) := in_strs (ls := tubes)
        refine ⟨_, rfl, ?_⟩
        show if inV (V.str ln) [V.str (Str.ofString "down"), V.str (Str.ofString "up")] = true then _ else _
        rw [inT]
        refine ite2 (fun y => ?_) (fun y => ⟨.order od, rfl, Zg.mono (by omega), .inr ⟨fun q => y (decide_eq_true q), od, rfl, odk⟩⟩)
        refine ⟨_, rfl, _, rfl, p, c, _, _, rfl, Zg.go.pen, Zg.go.cel, by omega, by decide, by decide, fun Hh rh gh ah bh => ?_⟩
        have Zh := Zg.step N gh
        obtain ⟨vh, hvh, evh⟩ := atI_lt (xs := ws.map V.str) ah (by rw [List.length_map, lw]; exact bh)
        obtain ⟨wd, hwd, rfl⟩ := List.mem_map.mp hvh
        exact ⟨W, _, _, _, rfl, rfl, SqL.of Zh.eW, evh, .name wd, rfl, Zh.mono (by omega), .inl ⟨of_decide_eq_true y, wd, rfl, kw wd hwd⟩⟩
      · rintro σ1 Hg ⟨what, rfl, Zg, hw⟩
        refine ⟨_, rfl, p, c, _, _, rfl, Zg.go.pen, Zg.go.cel, by omega, by decide, by decide, fun Hh luck gh ah bh => ?_⟩
        have Zh := Zg.step N gh
        refine ⟨_, rfl, _, rfl, _, _, rfl, rfl, p, c, _, _, rfl, Zh.go.pen, Zh.go.cel, by omega, by omega, by omega, fun Hi ri gi ai bi => ?_⟩
        have Zi := Zh.step N gi
        obtain ⟨b, hb, b0, b1⟩ : ∃ b : Int, (if decide (V.int luck = V.int 2) = true then (1 : Int) else 0) = b ∧ 0 ≤ b ∧ b ≤ 1 := ⟨_, rfl, by split <;> omega, by split <;> omega⟩
        refine ⟨_, rfl, rfl, .inr ⟨_, rfl, ?_⟩⟩
        rw [hb]
        refine ⟨_, rfl, _, _, rfl, rfl, _, _, rfl, rfl, .inl ⟨by omega, by omega⟩, _, _, rfl, rfl, ?_⟩
        refine ⟨fun σ' H' => ∃ later : Int, σ' = [some (.ref p), some (.int most), some (.int slow), some (.int far), some (.ref L), some (.ref O), some (.ref W), some (.int (t + z)), some (.ref D), some (.ref E), some (.int (0 + i)), some (.str ln), some what.v, some (.int luck), some (.int later)] ∧ TwoS K p c H L O W D E ls os ws bs qs cs rs (n + 70 + 8 * i + 8) H', ?_, ?_⟩
        · refine ⟨_, rfl, (by show 3 ≤ sizeLine; decide), fun t7 ht7 => ?_⟩
          generalize hX : upd Hi t7 _ = Hj
          obtain ⟨Sj, fj⟩ := alloc ht7 hX
          clear hX
          have Zj := Zi.same Sj
          refine ⟨t7, _, rfl, .inr (SqT.of fj), rfl, rfl, _, rfl, ite2 (fun y => ?_) (fun y => ⟨_, rfl, Zj.mono (by omega)⟩)⟩
          exact ⟨_, rfl, _, _, rfl, rfl, _, rfl, Zj.mono (by omega)⟩
        · rintro σ2 Hj ⟨later, rfl, Zj⟩
          have rowOk : ∀ m : Int, (⟨clampM m, ln, what⟩ : Row).Ok := fun m => ⟨(clamp_ok m).1, (clamp_ok m).2, lnk, hw⟩
          refine ⟨fun σ' H' => ∃ (bs' : List Addr) (qs' : List Row), σ' = [some (.ref p), some (.int most), some (.int slow), some (.int far), some (.ref L), some (.ref O), some (.ref W), some (.int (t + z)), some (.ref D), some (.ref E), some (.int (0 + i)), some (.str ln), some what.v, some (.int luck), some (.int later)] ∧ TwoS K p c H L O W D E ls os ws bs' qs' cs rs (n + 70 + 8 * i + 8) H' ∧
            qs'.length ≤ i + 1 ∧ (∀ r ∈ qs', r.Ok) ∧ Rising qs' ∧ ∀ r ∈ qs', r.m ≤ clampM (t + z), ?_, ?_⟩
          · refine ⟨_, rfl, rfl, _, rfl, ite2 (fun y => ?_) (fun y => ⟨bs, qs, rfl, Zj, by omega, oka, ris, lst2⟩)⟩
            refine ⟨_, rfl, .inl ⟨rfl, _, SqL.of Zj.eD⟩, ?_⟩
            refine ⟨_, rfl, _, _, rfl, _, _, rfl, _, rfl, _, rfl, (by show 3 ≤ sizeLine; decide), fun v hv => ?_⟩
            generalize hX : upd Hj v _ = Hk
            obtain ⟨Sk, fk⟩ := alloc hv hX
            clear hX
            have Zk := Zj.same Sk
            refine ⟨D, _, _, rfl, rfl, Zk.eD, (by rw [List.length_map, Zk.rD.length]; exact small1000 (by omega)), ?_⟩
            refine ⟨bs ++ [v], qs ++ [⟨clampM (t + z), ln, what⟩], rfl, Zk.putD N frD hc (SqT.of fk), by rw [List.length_append]; show _ + 1 ≤ _; omega, fun r hr => ?_, rising_snoc ris lst2, fun r hr => ?_⟩
            · rcases List.mem_append.mp hr with q | q
              · exact oka r q
              · rw [List.mem_singleton.mp q]
                exact rowOk _
            · rcases List.mem_append.mp hr with q | q
              · exact lst2 r q
              · rw [List.mem_singleton.mp q]
                exact Int.le_refl _
          · rintro σ3 Hk ⟨bs', qs', rfl, Zk, la', oka', ris', lst'⟩
            refine ⟨_, rfl, rfl, _, rfl, ite2 (fun y => ?_) (fun y => ⟨t + z, _, _, _, _, _, bs', cs, qs', rs, rfl, Zk.mono (by omega), la', by omega, oka', okb, ris', lst'⟩)⟩
            refine ⟨_, rfl, .inl ⟨rfl, _, SqL.of Zk.eE⟩, ?_⟩
            refine ⟨_, rfl, _, rfl, _, _, rfl, rfl, _, rfl, _, _, rfl, rfl, _, _, rfl, _, _, rfl, _, rfl, _, rfl, (by show 3 ≤ sizeLine; decide), fun v hv => ?_⟩
            generalize hX : upd Hk v _ = Hl
            obtain ⟨Sl, fl⟩ := alloc hv hX
            clear hX
            have Zl := Zk.same Sl
            refine ⟨E, _, _, rfl, rfl, Zl.eE, (by rw [List.length_map, Zl.rE.length]; exact small1000 (by omega)), ?_⟩
            refine ⟨t + z, _, _, _, _, _, bs', cs ++ [v], qs', rs ++ [⟨clampM (t + z + far + later), ln, what⟩], rfl, (Zl.putE N frE hc (SqT.of fl)).mono (by omega), la', by rw [List.length_append]; show _ + 1 ≤ _; omega, oka', fun r hr => ?_, ris', lst'⟩
            rcases List.mem_append.mp hr with q | q
            · exact okb r q
            · rw [List.mem_singleton.mp q]
              exact rowOk _
    · rintro σ Hm ⟨t, x10, x11, x12, x13, x14, bs, cs, qs, rs, rfl, Zm, la, lb, oka, okb, ris, lst⟩
      have la40 : qs.length ≤ 40 := by omega
      have lb40 : rs.length ≤ 40 := by omega
      obtain ⟨ks, ek, hk⟩ := rows_keys Zm.rE okb
      obtain ⟨_, _, pH, _⟩ := id hp
      have Tm := GoN.of_go (T := tabsT T) Zm.go pH tabs
      have ekv : cs.map V.ref = ks.map fun b => V.ref b.1 := by
        rw [← ek, List.map_map]
        rfl
      have eE := Zm.eE
      rw [ekv] at eE
      refine ⟨_, rfl, E, ks, rfl, SqL.of eE, fun b hb => ?_, Tm.tab, fun H3 ext tab3 l hl => ?_⟩
      · obtain ⟨r, h1, h2, _⟩ := hk b hb
        rw [← h2]
        exact ⟨_, h1⟩
      have T3 := Tm.ext ext tab3
      obtain ⟨_, _, pM, _⟩ := id Zm.go.pen
      have eD3 : H3 D = some (.lst (bs.map V.ref)) := ext _ _ Zm.eD (fun _ => nofun)
      have rD3 : RowsAt K H3 bs qs := Zm.rD.butN pM (.of_ext ext)
      generalize hX : upd H3 l _ = H4
      obtain ⟨S4, f4⟩ := alloc hl hX
      clear hX
      have T4 := T3.same S4
      refine ⟨_, rfl, D, _, rfl, .inl ⟨SqL.of (S4 _ _ eD3), fun ta hta => ?_⟩⟩
      generalize hX : upd H4 ta _ = H5
      obtain ⟨S5, f5⟩ := alloc hta hX
      clear hX
      have T5 := T4.same S5
      refine ⟨_, rfl, l, _, rfl, .inl ⟨SqL.of (S5 _ _ f4), fun tb htb => ?_⟩⟩
      generalize hX : upd H5 tb _ = H6
      obtain ⟨S6, f6⟩ := alloc htb hX
      clear hX
      have T6 := T5.same S6
      refine ⟨_, rfl, _, rfl, (by show 4 ≤ sizeLine; decide), fun u hu => ?_⟩
      generalize hX : upd H6 u _ = H7
      obtain ⟨S7, f7⟩ := alloc hu hX
      clear hX
      have S37 := S4.trans (S5.trans (S6.trans S7))
      have perm := List.mergeSort_perm ks fun a b => decide (a.2 ≤ b.2)
      have srt : (byFst ks).Pairwise fun a b => a.2 ≤ b.2 := by
        have := List.pairwise_mergeSort (le := fun a b : Addr × Int => decide (a.2 ≤ b.2)) (fun a b c h1 h2 => decide_eq_true (Int.le_trans (of_decide_eq_true h1) (of_decide_eq_true h2))) (fun a b => by
          simp only [Bool.or_eq_true, decide_eq_true_eq]
          omega) ks
        exact this.imp fun h => of_decide_eq_true h
      obtain ⟨rs', h1, h2, h3, _⟩ := rows_byFst (K := K) (H := H7) (ks := byFst ks) (fun b hb => by
        obtain ⟨r, q1, q2, q3⟩ := hk b (perm.mem_iff.mp hb)
        exact ⟨r, same_seqT S37 ((ButN.of_ext (p := p) ext).seqT' pM q1), q2, q3⟩) srt
      have lenk : ks.length = rs.length := by
        have := Zm.rE.length
        rw [← ek, List.length_map] at this
        exact this
      refine k H7 u ta tb far slow qs rs' ((T6.same S7).mono (by omega)) (SqT.of f7) ⟨bs, SqT.of (S7 _ _ (S6 _ _ f5)), rD3.same S37⟩ ⟨(byFst ks).map (·.1), ?_, h1⟩ la40 ?_ oka h2 ris h3 e0 e1 s0 s1
      · have z := SqT.of (K := K) (S7 _ _ f6)
        rw [List.map_map]
        exact z
      · have z := h1.length
        rw [List.length_map] at z
        have z2 : (byFst ks).length = ks.length := perm.length_eq
        omega
def sentOf (l : Str) : Str := if l = "port" ∨ l = "star" ∨ l = "down" then "bridge" else "room"
def spSent (K : PySem.W.Frag) : Sp := fun vs H Q _ => ∃ l : Str, vs = [.str l] ∧ l ∈ lines6 ∧ Q (.str (sentOf l)) H
theorem ok_sent (T : Txt w K mg) : FnOk P w K mg base CX0 1 T.a_sent_from T.d_sent_from ["line"] (spSent K) := by
  refine T.F_sent_from.ok sc_sent_from (fun vs H Q E h => ?_) (fun cdv A outer s H vs Q E hr h => ?_)
  · obtain ⟨l, rfl, _⟩ := h
    rfl
  · obtain ⟨l, rfl, hl, k⟩ := h
    refine ⟨_, (pss_one (ps_ret (pe_ix ix_kdict (pe_glob (v := .ref T.D_SENDERS) (by rfl) T.c_SENDERS rfl) (pv 0) (fun _ _ => rfl)))), ?_⟩
    have l6 : l = "port" ∨ l = "star" ∨ l = "down" ∨ l = "aport" ∨ l = "astar" ∨ l = "up" := by simpa [lines6] using hl
    rcases l6 with rfl | rfl | rfl | rfl | rfl | rfl
    · exact ⟨_, rfl, T.D_SENDERS, _, _, rfl, rfl, T.kd_SENDERS ("port", .str "bridge") (by simp), k⟩
    · exact ⟨_, rfl, T.D_SENDERS, _, _, rfl, rfl, T.kd_SENDERS ("star", .str "bridge") (by simp), k⟩
    · exact ⟨_, rfl, T.D_SENDERS, _, _, rfl, rfl, T.kd_SENDERS ("down", .str "bridge") (by simp), k⟩
    · exact ⟨_, rfl, T.D_SENDERS, _, _, rfl, rfl, T.kd_SENDERS ("aport", .str "room") (by simp), k⟩
    · exact ⟨_, rfl, T.D_SENDERS, _, _, rfl, rfl, T.kd_SENDERS ("astar", .str "room") (by simp), k⟩
    · exact ⟨_, rfl, T.D_SENDERS, _, _, rfl, rfl, T.kd_SENDERS ("up", .str "room") (by simp), k⟩
/-! ### a thing of any sort -/
inductive Any (K : PySem.W.Frag) (H : Hp) : V → Prop
  | non : Any K H .non
  | bl (b : Bool) : Any K H (.bl b)
  | int (i : Int) : Any K H (.int i)
  | str {t : Str} : TOk 400 t → Any K H (.str t)
  | lst {a : Addr} : TyX K H (.ref a) (.type "list") → Any K H (.ref a)
  | tup {a : Addr} : TyX K H (.ref a) (.type "tuple") → Any K H (.ref a)
  | dict {a : Addr} : TyX K H (.ref a) (.type "dict") → Any K H (.ref a)
def wholeV : V → Bool
  | .int _ => true
  | _ => false
def betV (lo hi : Int) : V → Bool
  | .int i => decide (lo ≤ i) && decide (i ≤ hi)
  | _ => false
def lettersS (t : Str) : Bool := t.cps.toList.all letter
def nameV : V → Bool
  | .str t => decide ((1 : Int) ≤ (t.length : Int)) && decide ((t.length : Int) ≤ 8) && lettersS t
  | _ => false
def isIntV : V → Bool
  | .int _ => true
  | .bl _ => true
  | _ => false
def isBlV : V → Bool
  | .bl _ => true
  | _ => false
def isStrV : V → Bool
  | .str _ => true
  | _ => false
section
variable {K : PySem.W.Frag} {H : Hp} {v : V}
theorem Any.ty (h : Any K H v) : ∃ ty, TyX K H v ty ∧ PySem.W.kitOne K ty (.type "int") = some (isIntV v) ∧ PySem.W.kitOne K ty (.type "bool") = some (isBlV v) ∧ PySem.W.kitOne K ty (.type "str") = some (isStrV v) := by
  cases h with
  | non => exact ⟨_, .base .non, kit_ty (by decide +kernel), kit_ty (by decide +kernel), kit_ty (by decide +kernel)⟩
  | bl b => exact ⟨_, .base (.bl b), kit_ty (by show kitB "bool" "int" = some true; decide +kernel), kit_ty (by show kitB "bool" "bool" = some true; decide +kernel), kit_ty (by show kitB "bool" "str" = some false; decide +kernel)⟩
  | int i => exact ⟨_, .base (.int i), kit_ty (by show kitB "int" "int" = some true; decide +kernel), kit_ty (by show kitB "int" "bool" = some false; decide +kernel), kit_ty (by show kitB "int" "str" = some false; decide +kernel)⟩
  | @str t _ => exact ⟨_, .base (.str t), kit_ty (by show kitB "str" "int" = some false; decide +kernel), kit_ty (by show kitB "str" "bool" = some false; decide +kernel), kit_ty (by show kitB "str" "str" = some true; decide +kernel)⟩
  | lst q => exact ⟨_, q, kit_ty (by show kitB "list" "int" = some false; decide +kernel), kit_ty (by show kitB "list" "bool" = some false; decide +kernel), kit_ty (by show kitB "list" "str" = some false; decide +kernel)⟩
  | tup q => exact ⟨_, q, kit_ty (by show kitB "tuple" "int" = some false; decide +kernel), kit_ty (by show kitB "tuple" "bool" = some false; decide +kernel), kit_ty (by show kitB "tuple" "str" = some false; decide +kernel)⟩
  | dict q => exact ⟨_, q, kit_ty (by show kitB "dict" "int" = some false; decide +kernel), kit_ty (by show kitB "dict" "bool" = some false; decide +kernel), kit_ty (by show kitB "dict" "str" = some false; decide +kernel)⟩
end
def spWhole (K : PySem.W.Frag) : Sp := fun vs H Q _ => ∃ v, vs = [v] ∧ Any K H v ∧ Q (.bl (wholeV v)) H
theorem ok_is_whole (T : Txt w K mg) : FnOk P w K mg base CX0 1 T.a_is_whole T.d_is_whole ["thing"] (spWhole K) := by
  refine T.F_is_whole.ok sc_is_whole (fun vs H Q E h => ?_) (fun cdv A outer s H vs Q E hr h => ?_)
  · obtain ⟨i, rfl, _⟩ := h
    rfl
  · obtain ⟨v, rfl, hv, k⟩ := h
    refine ⟨_, (pss_one (ps_ret (pe_and (pe_callB (k_isi K) (by rfl) T.z_isinstance (by decide +kernel) (pa_cons (pv 0) (pa_cons (pe_bltn (v := .ty "int") (by rfl) T.z_int (by decide +kernel) rfl) pa_nil))) (pe_one (pe_not (pe_callB (k_isi K) (by rfl) T.z_isinstance (by decide +kernel) (pa_cons (pv 0) (pa_cons (pe_bltn (v := .ty "bool") (by rfl) T.z_bool (by decide +kernel) rfl) pa_nil)))))))), ?_⟩
    obtain ⟨ty, t1, t2, t3, _⟩ := hv.ty
    refine ⟨_, rfl, _, _, _, _, _, rfl, ClsV.ty "int", t1, t2, _, rfl, ?_⟩
    cases hv with
    | int i => exact ⟨_, rfl, _, _, _, _, false, rfl, ClsV.ty "bool", t1, t3, _, rfl, k⟩
    | bl b => exact ⟨_, rfl, _, _, _, _, true, rfl, ClsV.ty "bool", t1, t3, _, rfl, k⟩
    | _ => exact k
/-! ### pairs -/
def likeP (x y : Row) : Bool := decide (x.l = y.l) && decide (x.w = y.w)
def lateP (x y : Row) (d : Int) : Int := if x.l = "port" ∨ x.l = "star" ∨ x.l = "down" then y.m - d - x.m else 0 - (y.m - d - x.m)
def lowP (x y : Row) (lag : Int) : Int := if x.l = "port" ∨ x.l = "star" ∨ x.l = "down" then y.m - x.m - lag else y.m - x.m
def highP (x y : Row) (lag : Int) : Int := if x.l = "port" ∨ x.l = "star" ∨ x.l = "down" then y.m - x.m else y.m - x.m + lag
theorem late_fit (x y : Row) (d lag : Int) : (decide (lowP x y lag ≤ d) && decide (d ≤ highP x y lag)) = (decide (0 ≤ lateP x y d) && decide (lateP x y d ≤ lag)) := by
  rw [Bool.eq_iff_iff, Bool.and_eq_true, Bool.and_eq_true, decide_eq_true_eq, decide_eq_true_eq, decide_eq_true_eq, decide_eq_true_eq]
  unfold lowP highP lateP
  split <;> omega
theorem like_eqv (x y : Row) : PyData.eqv (.tuple [.str x.l, x.w.d]) (.tuple [.str y.l, y.w.d]) = likeP x y := by
  show (x.l == y.l && (PyData.eqv x.w.d y.w.d && true)) = _
  have e : PyData.eqv x.w.d y.w.d = decide (x.w = y.w) := by
    cases x.w with
    | order i =>
      cases y.w with
      | order j =>
        show (i == j) = _
        rw [Bool.eq_iff_iff, beq_iff_eq, decide_eq_true_eq]
        exact ⟨fun z => by rw [z], fun z => by injection z⟩
      | name u => exact (decide_eq_false (fun z => nomatch z)).symm
    | name t =>
      cases y.w with
      | order j => exact (decide_eq_false (fun z => nomatch z)).symm
      | name u =>
        show (t == u) = _
        rw [Bool.eq_iff_iff, beq_iff_eq, decide_eq_true_eq]
        exact ⟨fun z => by rw [z], fun z => by injection z⟩
  rw [e, Bool.and_true]
  unfold likeP
  congr 1
/-! ### what is a pair, of any thing -/
def inLog (n : Nat) : V → Bool
  | .int i => decide (0 ≤ i) && decide (i < (n : Int))
  | _ => false
def spNumIn (K : PySem.W.Frag) : Sp := fun vs H Q _ => ∃ (t : Addr) (rs : List Row) (v : V), vs = [.ref t, v] ∧ LogAt K H t rs ∧ Any K H v ∧ Q (.bl (inLog rs.length v)) H
theorem ok_is_number_in (T : Txt w K mg) : FnOk P w K mg base CX0 2 T.a_is_number_in T.d_is_number_in ["log", "thing"] (spNumIn K) := by
  have G_is_whole := ok_is_whole (P := P) (base := base) T
  refine T.F_is_number_in.ok sc_is_number_in (fun vs H Q E h => ?_) (fun cdv A outer s H vs Q E hr h => ?_)
  · obtain ⟨t, rs, v, rfl, _⟩ := h
    rfl
  · obtain ⟨t, rs, v, rfl, hL, hv, k⟩ := h
    have hr_is_whole := hr
    obtain ⟨as, hT, hR⟩ := id hL
    have la := hR.length
    refine ⟨_, (pss_one (ps_ret (pe_and (pe_call G_is_whole hr_is_whole (by rfl) T.g_is_whole T.F_is_whole.kp T.b_is_whole .nil pass0 (pa_cons (pv 1) pa_nil)) (pe_one (pe_chain op_le op_lt pe_int (pv 1) (pe_callB (k_len K) (by rfl) T.z_len (by decide +kernel) (pa_cons (pv 0) pa_nil))))))), ?_⟩
    refine ⟨_, rfl, v, rfl, hv, _, rfl, ?_⟩
    cases hv with
    | int i =>
      show if true = true then _ else _
      refine iteT ?_
      refine ⟨_, rfl, _, _, rfl, rfl, _, rfl, ?_⟩
      have k : Q (.bl (decide ((0 : Int) ≤ i) && decide (i < (rs.length : Int)))) H := k
      cases z : decide ((0 : Int) ≤ i) with
      | false =>
        rw [z] at k
        exact iteF k
      | true =>
        rw [z, Bool.true_and] at k
        refine iteT ?_
        refine ⟨_, rfl, t, _, rfl, .inr hT, _, _, rfl, rfl, ?_⟩
        show Q (.bl (decide (i < ((as.map V.ref).length : Int)))) H
        rw [List.length_map, la]
        exact k
    | _ => exact k
/-- a thing; its two items where it is a tuple of two -/
inductive Th (K : PySem.W.Frag) (H : Hp) : V → Option (V × V) → Prop
  | two {a : Addr} {y z : V} : SqT K H a [y, z] → Any K H y → Any K H z → Th K H (.ref a) (some (y, z))
  | few {a : Addr} {xs : List V} : SqT K H a xs → xs.length ≠ 2 → Th K H (.ref a) none
  | other {v : V} {ty : Value} : TyX K H v ty → PySem.W.kitOne K ty (.type "tuple") = some false → Th K H v none
theorem Th.pr {K : PySem.W.Frag} {H : Hp} {a : Addr} {z : Int × Int} (h : PrAt K H a z) : Th K H (.ref a) (some (.int z.1, .int z.2)) := .two h (.int _) (.int _)
def thP (A B : List Row) : Option (V × V) → Bool
  | some (.int i, .int j) => inLog A.length (.int i) && (inLog B.length (.int j) && (match A[i.toNat]?, B[j.toNat]? with
    | some x, some y => likeP x y
    | _, _ => false))
  | _ => false
theorem thP_pr {A B : List Row} {b r : Nat} {x y : Row} (hx : A[b]? = some x) (hy : B[r]? = some y) : thP A B (some (.int (b : Int), .int (r : Int))) = likeP x y := by
  have bl := (List.getElem?_eq_some_iff.mp hx).1
  have rl := (List.getElem?_eq_some_iff.mp hy).1
  have e1 : inLog A.length (.int (b : Int)) = true := by
    show (decide ((0 : Int) ≤ (b : Int)) && decide ((b : Int) < (A.length : Int))) = true
    rw [decide_eq_true (show (0 : Int) ≤ (b : Int) by omega), decide_eq_true (show (b : Int) < (A.length : Int) by omega)]; rfl
  have e2 : inLog B.length (.int (r : Int)) = true := by
    show (decide ((0 : Int) ≤ (r : Int)) && decide ((r : Int) < (B.length : Int))) = true
    rw [decide_eq_true (show (0 : Int) ≤ (r : Int) by omega), decide_eq_true (show (r : Int) < (B.length : Int) by omega)]; rfl
  show (inLog A.length (.int (b : Int)) && (inLog B.length (.int (r : Int)) && (match A[((b : Int)).toNat]?, B[((r : Int)).toNat]? with
    | some x, some y => likeP x y
    | _, _ => false))) = _
  rw [e1, e2, Int.toNat_natCast, Int.toNat_natCast, hx, hy]
  rfl
theorem thP_of {A B : List Row} {o : Option (V × V)} (h : thP A B o = true) : ∃ (b r : Nat) (x y : Row), o = some (.int (b : Int), .int (r : Int)) ∧ A[b]? = some x ∧ B[r]? = some y ∧ likeP x y = true := by
  unfold thP at h
  split at h
  · rename_i i j
    rw [Bool.and_eq_true, Bool.and_eq_true] at h
    obtain ⟨h1, h2, h3⟩ := h
    unfold inLog at h1 h2
    rw [Bool.and_eq_true, decide_eq_true_eq, decide_eq_true_eq] at h1 h2
    obtain ⟨b, rfl⟩ := Int.eq_ofNat_of_zero_le h1.1
    obtain ⟨r, rfl⟩ := Int.eq_ofNat_of_zero_le h2.1
    rw [Int.toNat_natCast, Int.toNat_natCast] at h3
    split at h3
    · rename_i x y hx hy
      exact ⟨b, r, x, y, rfl, hx, hy, h3⟩
    · cases h3
  · cases h
def spIsPair (K : PySem.W.Frag) : Sp := fun vs H Q _ => ∃ (ta tb : Addr) (v : V) (A B : List Row) (o : Option (V × V)), vs = [.ref ta, .ref tb, v] ∧ LogAt K H ta A ∧ LogAt K H tb B ∧ (∀ r ∈ A, r.Ok) ∧ (∀ r ∈ B, r.Ok) ∧ Th K H v o ∧ ∀ H', Same H H' → Q (.bl (thP A B o)) H'
theorem ok_is_pair (T : Txt w K mg) : FnOk P w K mg base CX0 3 T.a_is_pair T.d_is_pair ["bridge", "room", "thing"] (spIsPair K) := by
  have G_is_number_in := ok_is_number_in (P := P) (base := base) T
  refine T.F_is_pair.ok sc_is_pair (fun vs H Q E h => ?_) (fun cdv A outer s H vs Q E hr h => ?_)
  · obtain ⟨ta, tb, v, A, B, o, rfl, _⟩ := h
    rfl
  · obtain ⟨ta, tb, v, A, B, o, rfl, hA, hB, oA, oB, hth, k⟩ := h
    have hr_is_number_in := hr
    have k0 := k H (Same.refl _)
    refine ⟨_, (pss_cons (ps_if (PW.pt (pw_or (pt_not (pt_val (pe_callB (k_isi K) (by rfl) T.z_isinstance (by decide +kernel) (pa_cons (pv 2) (pa_cons (pe_bltn (v := .ty "tuple") (by rfl) T.z_tuple (by decide +kernel) rfl) pa_nil))))) (pw_or1 (pt_cmpR op_ne (pe_callB (k_len K) (by rfl) T.z_len (by decide +kernel) (pa_cons (pv 2) pa_nil)) pe_int (nomark _))))) (pss_one (ps_ret pe_bl)) pss_nil)
  (pss_cons (ps_asg (pv 2) (k_pgT (n := 2) K rfl (pgs_cons (pg_name (i := 3) sc_is_pair.nd rfl (by first | exact Or.inl rfl | exact Or.inr rfl)) (pgs_cons (pg_name (i := 4) sc_is_pair.nd rfl (by first | exact Or.inl rfl | exact Or.inr rfl)) pgs_nil))))
  (pss_cons (ps_if (PW.pt (pw_or (pt_not (pt_val (pe_call G_is_number_in hr_is_number_in (by rfl) T.g_is_number_in T.F_is_number_in.kp T.b_is_number_in .nil pass0 (pa_cons (pv 0) (pa_cons (pv 3) pa_nil))))) (pw_or1 (pt_not (pt_val (pe_call G_is_number_in hr_is_number_in (by rfl) T.g_is_number_in T.F_is_number_in.kp T.b_is_number_in .nil pass0 (pa_cons (pv 1) (pa_cons (pv 4) pa_nil)))))))) (pss_one (ps_ret pe_bl)) pss_nil)
  (pss_one (ps_ret (pe_cmpR (k_eqD K hr.units) (pe_slice (k_slT K) (pe_ix (kx_tup K) (pv 0) (pv 3) (fun _ _ => rfl)) (po_some pe_int) po_none) (pe_slice (k_slT K) (pe_ix (kx_tup K) (pv 1) (pv 4) (fun _ _ => rfl)) (po_some pe_int) po_none) (nomark _))))))), ?_⟩
    cases hth with
    | other ty kit =>
      refine ⟨_, rfl, _, _, _, _, false, rfl, ClsV.ty "tuple", ty, kit, _, rfl, ?_⟩
      show if (!false) = true then _ else _
      refine iteT ?_
      show if true = true then _ else _
      exact iteT k0
    | @few a xs hP n2 =>
      refine ⟨_, rfl, _, _, _, _, true, rfl, ClsV.ty "tuple", seqT_ty hP, kit_ty (by decide +kernel), _, rfl, ?_⟩
      show if (!true) = true then _ else _
      refine iteF ?_
      refine ⟨_, rfl, a, _, rfl, .inr hP, rfl, _, rfl, ?_⟩
      show if (!decide (V.int (xs.length : Int) = V.int 2)) = true then _ else _
      rw [decide_eq_false (fun z => by injection z with z; omega)]
      exact iteT k0
    | @two t y z hP hy hz =>
      refine ⟨_, rfl, _, _, _, _, true, rfl, ClsV.ty "tuple", seqT_ty hP, kit_ty (by decide +kernel), _, rfl, ?_⟩
      show if (!true) = true then _ else _
      refine iteF ?_
      refine ⟨_, rfl, t, _, rfl, .inr hP, rfl, _, rfl, ?_⟩
      show if false = true then _ else _
      refine iteF ?_
      refine ⟨_, rfl, t, _, rfl, hP, rfl, _, _, rfl, _, _, rfl, rfl, ?_⟩
      refine ⟨_, rfl, _, rfl, ta, A, y, rfl, hA, hy, _, rfl, ?_⟩
      have out1 : inLog A.length y = false → thP A B (some (y, z)) = false := fun q => by
        unfold thP
        split
        · rename_i i j e
          obtain ⟨rfl, rfl⟩ : y = .int i ∧ z = .int j := by
            injection e with e
            injection e with e1 e2
            exact ⟨e1, e2⟩
          rw [q, Bool.false_and]
        · rfl
      have out2 : inLog B.length z = false → thP A B (some (y, z)) = false := fun q => by
        unfold thP
        split
        · rename_i i j e
          obtain ⟨rfl, rfl⟩ : y = .int i ∧ z = .int j := by
            injection e with e
            injection e with e1 e2
            exact ⟨e1, e2⟩
          rw [q, Bool.false_and, Bool.and_false]
        · rfl
      show if (!inLog A.length y) = true then _ else _
      cases z1 : inLog A.length y with
      | false =>
        rw [out1 z1] at k0
        exact iteT (iteT k0)
      | true =>
        refine iteF ?_
        refine ⟨_, rfl, _, rfl, tb, B, z, rfl, hB, hz, _, rfl, ?_⟩
        show if (!inLog B.length z) = true then _ else _
        cases z2 : inLog B.length z with
        | false =>
          rw [out2 z2] at k0
          exact iteT k0
        | true =>
          refine iteF ?_
          obtain ⟨i, rfl⟩ : ∃ i, y = .int i := by
            cases y <;> first | exact ⟨_, rfl⟩ | cases z1
          obtain ⟨j, rfl⟩ : ∃ i, z = .int i := by
            cases z <;> first | exact ⟨_, rfl⟩ | cases z2
          unfold inLog at z1 z2
          rw [Bool.and_eq_true, decide_eq_true_eq, decide_eq_true_eq] at z1 z2
          obtain ⟨b, rfl⟩ := Int.eq_ofNat_of_zero_le z1.1
          obtain ⟨r, rfl⟩ := Int.eq_ofNat_of_zero_le z2.1
          have hx : A[b]? = some A[b] := List.getElem?_eq_getElem (by omega)
          have hy : B[r]? = some B[r] := List.getElem?_eq_getElem (by omega)
          rw [thP_pr hx hy] at k
          have xo := oA _ (List.mem_of_getElem? hx)
          have yo := oB _ (List.mem_of_getElem? hy)
          generalize A[b] = x at *
          generalize B[r] = y at *
          obtain ⟨as, hTa, hRa⟩ := id hA
          obtain ⟨bs, hTb, hRb⟩ := id hB
          obtain ⟨a1, ha1, rowA⟩ := hRa.get hx
          obtain ⟨b1, hb1, rowB⟩ := hRb.get hy
          have ga : atI (as.map V.ref) (b : Int) = some (.ref a1) := atI_nat (by rw [List.getElem?_map, ha1]; rfl)
          have gb : atI (bs.map V.ref) (r : Int) = some (.ref b1) := atI_nat (by rw [List.getElem?_map, hb1]; rfl)
          refine ⟨_, rfl, _, rfl, ta, _, _, _, rfl, rfl, hTa, ga, 1, rfl, a1, _, rfl, rowA, (by show ¬(1 = 0 ∧ _); exact fun z => nomatch z.1), fun p1 hp1 => ?_⟩
          generalize hX : upd H p1 _ = H1
          obtain ⟨S1, f1⟩ := alloc hp1 hX
          clear hX
          refine ⟨_, rfl, _, rfl, tb, _, _, _, rfl, rfl, same_seqT S1 hTb, gb, 1, rfl, b1, _, rfl, same_seqT S1 rowB, (by show ¬(1 = 0 ∧ _); exact fun z => nomatch z.1), fun p2 hp2 => ?_⟩
          generalize hX : upd H1 p2 _ = H2
          obtain ⟨S2, f2⟩ := alloc hp2 hX
          clear hX
          have tl : ∀ q : Row, q.Ok → RepOk (.tuple [.str q.l, q.w.d]) 1 18 := fun q qo => (RepOk.tuple (k := 0) (n := 8) fun d hd => by
            have z : d = .str q.l ∨ d = q.w.d := by simpa using hd
            rcases z with rfl | rfl
            · exact RepOk.tok (lines6_ok _ qo.ln)
            · refine What.rep ?_
              rcases qo.wh with ⟨_, t, e, q⟩ | ⟨_, i, e, q1, q2⟩
              · exact .inr ⟨t, e, q⟩
              · exact .inl ⟨i, e, q1, q2⟩).mono (Nat.le_refl _) (by show 2 * 9 ≤ 18; decide)
          refine ⟨.tuple [.str x.l, x.w.d], .tuple [.str y.l, y.w.d], .tup (SqT.of (S2 _ _ f1)) (.cons (.str _) (.cons x.w.dp .nil)), .tup (SqT.of f2) (.cons (.str _) (.cons y.w.dp .nil)), (tl x xo).shaped (by decide), (tl y yo).shaped (by decide), ?_⟩
          rw [like_eqv]
          exact k H2 (S1.trans S2)
def spSpan (K : PySem.W.Frag) (C : Addr) : Sp := fun vs H Q E => ∃ (ta tb : Addr) (v : V) (A B : List Row) (o : Option (V × V)) (lag : Int), vs = [.ref ta, .ref tb, v, .int lag] ∧ LogAt K H ta A ∧ LogAt K H tb B ∧ (∀ r ∈ A, r.Ok) ∧ (∀ r ∈ B, r.Ok) ∧ Th K H v o ∧
  (∀ (b r : Nat) (x y : Row), o = some (.int (b : Int), .int (r : Int)) → A[b]? = some x → B[r]? = some y → likeP x y = true → ∀ H' u, Same H H' → H' u = some (.tup [.int (lowP x y lag), .int (highP x y lag)]) → H u = none → Q (.ref u) H') ∧
  (thP A B o = false → ∀ H', Same H H' → E (.ref C) none H')
theorem ok_span (T : Txt w K mg) : FnOk P w K mg base (L2.CX P w) 4 T.a_span T.d_span ["bridge", "room", "pair", "lag"] (spSpan K T.C_NoPair) := by
  have G_is_pair := ok_is_pair (P := P) (base := base) T
  have G_sent_from := ok_sent (P := P) (base := base) T
  refine T.F_span.ok sc_span (fun vs H Q E h => ?_) (fun cdv A outer s H vs Q E hr h => ?_)
  · obtain ⟨ta, tb, v, A, B, o, lag, rfl, _⟩ := h
    rfl
  · obtain ⟨ta, tb, v, A, B, o, lag, rfl, hA, hB, oA, oB, hth, k, ke⟩ := h
    have hr_is_pair := hr
    have hr_sent_from := hr.mono (show 1 ≤ 3 by decide)
    refine ⟨_, (pss_cons (ps_if (pt_not (pt_val (pe_call G_is_pair hr_is_pair (by rfl) T.g_is_pair T.F_is_pair.kp T.b_is_pair .nil pass0 (pa_cons (pv 0) (pa_cons (pv 1) (pa_cons (pv 2) pa_nil)))))) (pss_one (ps_raise rfl (takes_of rfl rfl rfl rfl) (pmk_own PySem.F.excBase_ValueError T.x_NoPair T.c_NoPair T.k_NoPair (raises_own T.b_NoPair T.t_NoPair) rfl))) pss_nil)
  (pss_cons (ps_asg (pv 2) (k_pgT (n := 2) K rfl (pgs_cons (pg_name (i := 4) sc_span.nd rfl (by first | exact Or.inl rfl | exact Or.inr rfl)) (pgs_cons (pg_name (i := 5) sc_span.nd rfl (by first | exact Or.inl rfl | exact Or.inr rfl)) pgs_nil))))
  (pss_cons (ps_set (i := 6) sc_span.nd rfl (by first | exact Or.inl rfl | exact Or.inr rfl) (pe_op op_sub (pe_ix (kx_tup K) (pe_ix (kx_tup K) (pv 1) (pv 5) (fun _ _ => rfl)) pe_int (fun _ _ => rfl)) (pe_ix (kx_tup K) (pe_ix (kx_tup K) (pv 0) (pv 4) (fun _ _ => rfl)) pe_int (fun _ _ => rfl))))
  (pss_cons (ps_if (pt_cmpR op_eq (pe_call G_sent_from hr_sent_from (by rfl) T.g_sent_from T.F_sent_from.kp T.b_sent_from .nil pass0 (pa_cons (pe_ix (kx_tup K) (pe_ix (kx_tup K) (pv 0) (pv 4) (fun _ _ => rfl)) pe_int (fun _ _ => rfl)) pa_nil)) pe_str (nomark _)) (pss_one (ps_ret (pe_tup (pa_cons (pe_op op_sub (pv 6) (pv 3)) (pa_cons (pv 6) pa_nil))))) pss_nil)
  (pss_one (ps_ret (pe_tup (pa_cons (pv 6) (pa_cons (pe_op op_add (pv 6) (pv 3)) pa_nil))))))))), ?_⟩
    refine ⟨_, rfl, _, rfl, _, rfl, ta, tb, v, A, B, o, rfl, hA, hB, oA, oB, hth, fun H1 S1 => ?_⟩
    refine ⟨_, rfl, ?_⟩
    cases lk : thP A B o with
    | false =>
      show if (!false) = true then _ else _
      exact iteT (ke lk H1 S1)
    | true =>
    show if (!true) = true then _ else _
    refine iteF ?_
    obtain ⟨b, r, x, y, rfl, hx, hy, lk⟩ := thP_of lk
    have xo := oA x (List.mem_of_getElem? hx)
    obtain ⟨t, rfl, hP⟩ : ∃ t, v = .ref t ∧ SqT K H t [.int (b : Int), .int (r : Int)] := by
      cases hth with
      | two h _ _ => exact ⟨_, rfl, h⟩
    have k := k b r x y rfl hx hy lk
    have hP1 := same_seqT S1 hP
    obtain ⟨as, hTa, hRa⟩ := hA.same S1
    obtain ⟨bs, hTb, hRb⟩ := hB.same S1
    obtain ⟨a1, ha1, rowA⟩ := hRa.get hx
    obtain ⟨b1, hb1, rowB⟩ := hRb.get hy
    have ga : atI (as.map V.ref) (b : Int) = some (.ref a1) := atI_nat (by rw [List.getElem?_map, ha1]; rfl)
    have gb : atI (bs.map V.ref) (r : Int) = some (.ref b1) := atI_nat (by rw [List.getElem?_map, hb1]; rfl)
    refine ⟨_, rfl, t, _, rfl, hP1, rfl, _, _, rfl, _, _, rfl, rfl, ?_⟩
    refine ⟨_, rfl, _, rfl, tb, _, _, _, rfl, rfl, hTb, gb, b1, _, 0, _, rfl, rfl, rowB, rfl, _, rfl, _, rfl, ta, _, _, _, rfl, rfl, hTa, ga, a1, _, 0, _, rfl, rfl, rowA, rfl, _, _, rfl, rfl, ?_⟩
    refine ⟨_, rfl, _, rfl, ta, _, _, _, rfl, rfl, hTa, ga, a1, _, 1, _, rfl, rfl, rowA, rfl, x.l, rfl, xo.ln, rfl, _, rfl, ?_⟩
    by_cases z : x.l = "port" ∨ x.l = "star" ∨ x.l = "down"
    · have e : sentOf x.l = "bridge" := if_pos z
      rw [e]
      show if decide (V.str "bridge" = V.str "bridge") = true then _ else _
      rw [if_pos (decide_eq_true rfl)]
      refine ⟨_, rfl, _, rfl, _, _, rfl, rfl, _, rfl, (by show 2 ≤ sizeLine; decide), fun u hu => ?_⟩
      have ev : V.int (lowP x y lag) = V.int (y.m - x.m - lag) := by unfold lowP; rw [if_pos z]
      have eh : V.int (highP x y lag) = V.int (y.m - x.m) := by unfold highP; rw [if_pos z]
      exact k _ u (same_new S1 hu) (by rw [upd_same, ev, eh]) (S1.free hu)
    · have e : sentOf x.l = "room" := if_neg z
      rw [e]
      show if decide (V.str "room" = V.str "bridge") = true then _ else _
      rw [decide_eq_false (by decide +kernel), if_neg (by decide)]
      refine ⟨_, rfl, _, rfl, _, rfl, _, _, rfl, rfl, (by show 2 ≤ sizeLine; decide), fun u hu => ?_⟩
      have ev : V.int (lowP x y lag) = V.int (y.m - x.m) := by unfold lowP; rw [if_neg z]
      have eh : V.int (highP x y lag) = V.int (y.m - x.m + lag) := by unfold highP; rw [if_neg z]
      exact k _ u (same_new S1 hu) (by rw [upd_same, ev, eh]) (S1.free hu)
def spLate (K : PySem.W.Frag) : Sp := fun vs H Q _ => ∃ (ta tb : Addr) (A B : List Row) (b r : Nat) (x y : Row) (d : Int), vs = [.ref ta, .ref tb, .int b, .int r, .int d] ∧ LogAt K H ta A ∧ LogAt K H tb B ∧ A[b]? = some x ∧ B[r]? = some y ∧ ∀ H', Same H H' → Q (.int (lateP x y d)) H'
theorem ok_late (T : Txt w K mg) : FnOk P w K mg base CX0 1 T.a_late T.d_late ["_law_deck", "_law_hold", "_law_b", "_law_r", "_law_far"] (spLate K) := by
  refine T.F_late.ok sc_late (fun vs H Q E h => ?_) (fun cdv A outer s H vs Q E hr h => ?_)
  · obtain ⟨ta, tb, A, B, b, r, x, y, d, rfl, _⟩ := h
    rfl
  · obtain ⟨ta, tb, A, B, b, r, x, y, d, rfl, hA, hB, hx, hy, k⟩ := h
    obtain ⟨as, hTa, hRa⟩ := id hA
    obtain ⟨bs, hTb, hRb⟩ := id hB
    obtain ⟨a1, ha1, rowA⟩ := hRa.get hx
    obtain ⟨b1, hb1, rowB⟩ := hRb.get hy
    have ga : atI (as.map V.ref) (b : Int) = some (.ref a1) := atI_nat (by rw [List.getElem?_map, ha1]; rfl)
    have gb : atI (bs.map V.ref) (r : Int) = some (.ref b1) := atI_nat (by rw [List.getElem?_map, hb1]; rfl)
    refine ⟨_, (pss_cons (ps_set (i := 5) sc_late.nd rfl (by first | exact Or.inl rfl | exact Or.inr rfl) (pe_op op_sub (pe_op op_sub (pe_ix (kx_tup K) (pe_ix (kx_tup K) (pv 1) (pv 3) (fun _ _ => rfl)) pe_int (fun _ _ => rfl)) (pv 4)) (pe_ix (kx_tup K) (pe_ix (kx_tup K) (pv 0) (pv 2) (fun _ _ => rfl)) pe_int (fun _ _ => rfl))))
  (pss_cons (ps_if (pt_cmpR (k_in K) (pe_ix (kx_tup K) (pe_ix (kx_tup K) (pv 0) (pv 2) (fun _ _ => rfl)) pe_int (fun _ _ => rfl)) (pe_tup (pa_cons pe_str (pa_cons pe_str (pa_cons pe_str pa_nil)))) (by rfl)) (pss_one (ps_ret (pv 5))) pss_nil)
  (pss_one (ps_ret (pe_op op_sub pe_int (pv 5)))))), ?_⟩
    refine ⟨_, rfl, _, rfl, tb, _, _, _, rfl, rfl, hTb, gb, b1, _, 0, _, rfl, rfl, rowB, rfl, _, rfl, _, _, rfl, rfl, _, rfl, _, rfl, ta, _, _, _, rfl, rfl, hTa, ga, a1, _, 0, _, rfl, rfl, rowA, rfl, _, _, rfl, rfl, ?_⟩
    refine ⟨_, rfl, _, rfl, ta, _, _, _, rfl, rfl, hTa, ga, a1, _, 1, _, rfl, rfl, rowA, rfl, (by show 3 ≤ sizeLine; decide), fun t ht => ?_⟩
    generalize hX : upd H t _ = H1
    obtain ⟨S1, f1⟩ := alloc ht hX
    clear hX
    have kk := k H1 S1
    unfold lateP at kk
    refine ⟨t, _, rfl, .inr (SqT.of f1), rfl, rfl, _, rfl, ?_⟩
    show if inV (V.str x.l) [V.str (Str.ofString "port"), V.str (Str.ofString "star"), V.str (Str.ofString "down")] = true then _ else _
    have inT : inV (V.str x.l) [V.str (Str.ofString "port"), V.str (Str.ofString "star"), V.str (Str.ofString "down")] = decide (x.l = "port" ∨ x.l = "star" ∨ x.l = "down") := by
      have := in_strs (x := x.l) (ls := ["port", "star", "down"])
      refine Eq.trans this ?_
      rw [Bool.eq_iff_iff, decide_eq_true_eq, decide_eq_true_eq]
      simp
    rw [inT]
    refine ite2 (fun z => ?_) (fun z => ?_)
    · rw [if_pos (of_decide_eq_true z)] at kk
      exact ⟨_, rfl, kk⟩
    · rw [if_neg (fun q => z (decide_eq_true q))] at kk
      exact ⟨_, rfl, _, _, rfl, rfl, kk⟩
/-! ### the law's pairs -/
def spLawIsPair (K : PySem.W.Frag) : Sp := fun vs H Q _ => ∃ (ta tb : Addr) (A B : List Row) (b r : Nat) (x y : Row), vs = [.ref ta, .ref tb, .int b, .int r] ∧ LogAt K H ta A ∧ LogAt K H tb B ∧ A[b]? = some x ∧ B[r]? = some y ∧ Q (.bl (likeP x y)) H
theorem what_v (x y : What) : decide (x.v = y.v) = decide (x = y) := by
  rw [Bool.eq_iff_iff, decide_eq_true_eq, decide_eq_true_eq]
  exact ⟨What.v_inj, fun z => by rw [z]⟩
theorem ok_law_is_pair (T : Txt w K mg) : FnOk P w K mg base CX0 1 T.a_law_is_pair T.d_law_is_pair ["_law_deck", "_law_hold", "_law_b", "_law_r"] (spLawIsPair K) := by
  refine T.F_law_is_pair.ok sc_law_is_pair (fun vs H Q E h => ?_) (fun cdv A outer s H vs Q E hr h => ?_)
  · obtain ⟨ta, tb, A, B, b, r, x, y, rfl, _⟩ := h
    rfl
  · obtain ⟨ta, tb, A, B, b, r, x, y, rfl, hA, hB, hx, hy, k⟩ := h
    obtain ⟨as, hTa, hRa⟩ := id hA
    obtain ⟨bs, hTb, hRb⟩ := id hB
    obtain ⟨a1, ha1, rowA⟩ := hRa.get hx
    obtain ⟨b1, hb1, rowB⟩ := hRb.get hy
    have ga : atI (as.map V.ref) (b : Int) = some (.ref a1) := atI_nat (by rw [List.getElem?_map, ha1]; rfl)
    have gb : atI (bs.map V.ref) (r : Int) = some (.ref b1) := atI_nat (by rw [List.getElem?_map, hb1]; rfl)
    refine ⟨_, (pss_one (ps_ret (pe_and (pe_cmpR op_eq (pe_ix (kx_tup K) (pe_ix (kx_tup K) (pv 0) (pv 2) (fun _ _ => rfl)) pe_int (fun _ _ => rfl)) (pe_ix (kx_tup K) (pe_ix (kx_tup K) (pv 1) (pv 3) (fun _ _ => rfl)) pe_int (fun _ _ => rfl)) (nomark _)) (pe_one (pe_cmpR op_eq (pe_ix (kx_tup K) (pe_ix (kx_tup K) (pv 0) (pv 2) (fun _ _ => rfl)) pe_int (fun _ _ => rfl)) (pe_ix (kx_tup K) (pe_ix (kx_tup K) (pv 1) (pv 3) (fun _ _ => rfl)) pe_int (fun _ _ => rfl)) (nomark _)))))), ?_⟩
    refine ⟨_, rfl, _, rfl, ta, _, _, _, rfl, rfl, hTa, ga, a1, _, 1, _, rfl, rfl, rowA, rfl, _, rfl, _, rfl, tb, _, _, _, rfl, rfl, hTb, gb, b1, _, 1, _, rfl, rfl, rowB, rfl, rfl, _, rfl, ?_⟩
    show if decide (V.str x.l = V.str y.l) = true then _ else _
    have es : decide (V.str x.l = V.str y.l) = decide (x.l = y.l) := by
      rw [Bool.eq_iff_iff, decide_eq_true_eq, decide_eq_true_eq]
      exact ⟨fun z => by injection z, fun z => by rw [z]⟩
    rw [es]
    unfold likeP at k
    cases z : decide (x.l = y.l) with
    | false =>
      rw [z] at k
      exact k
    | true =>
      rw [z, Bool.true_and, ← what_v] at k

      exact ⟨_, rfl, _, rfl, ta, _, _, _, rfl, rfl, hTa, ga, a1, _, 2, _, rfl, rfl, rowA, rfl, _, rfl, _, rfl, tb, _, _, _, rfl, rfl, hTb, gb, b1, _, 2, _, rfl, rfl, rowB, rfl, scal_what _ _, k⟩
/-! ### what is no pair, mostly -/
theorem tyx_go {K : PySem.W.Frag} {H H1 : Hp} {v : V} {t : Value} {p c c2 : Addr} {n m : Nat} (h : TyX K H v t) (hp : PenAt H p c n) (hp1 : PenAt H1 p c2 m) (g : But p H H1) : TyX K H1 v t := by
  obtain ⟨i, j, e, _⟩ := hp
  obtain ⟨i1, j1, e1, _⟩ := hp1
  have off : ∀ {b : Addr} {o : HO}, H b = some o → (∀ xs, o ≠ .lst xs) → H1 b = some o := fun {b o} q nl => g b o (fun z => by rw [z, e] at q; cases q; exact nl _ rfl) q
  cases h with
  | base b =>
    cases b with
    | non => exact .base .non
    | bl x => exact .base (.bl x)
    | int x => exact .base (.int x)
    | str x => exact .base (.str x)
    | flt x => exact .base (.flt x)
    | @lst a xs q =>
      by_cases z : a = p
      · rw [z]
        exact .base (.lst e1)
      · exact .base (.lst (g _ _ z q))
    | frz q => exact .base (.frz (off q (fun _ => nofun)))
    | tup q => exact .base (.tup (off q (fun _ => nofun)))
    | dK q => exact .base (.dK (off q (fun _ => nofun)))
    | dT q => exact .base (.dT (off q (fun _ => nofun)))
    | ins q cl ha hn htk hm => exact .base (.ins (off q (fun _ => nofun)) cl ha hn htk hm)
  | byt b => exact .byt b
  | set q => exact .set (off q (fun _ => nofun))
  | kList q c => exact .kList q c
  | kTuple q c => exact .kTuple q c
  | kDict q c => exact .kDict q c
  | fTuple q => exact .fTuple (off q (fun _ => nofun))
  | fDict q => exact .fDict (off q (fun _ => nofun))
theorem tyx_same {K : PySem.W.Frag} {H H1 : Hp} {v : V} {t : Value} (h : TyX K H v t) (g : Same H H1) : TyX K H1 v t := by
  cases h with
  | base b =>
    cases b with
    | non => exact .base .non
    | bl x => exact .base (.bl x)
    | int x => exact .base (.int x)
    | str x => exact .base (.str x)
    | flt x => exact .base (.flt x)
    | lst q => exact .base (.lst (g _ _ q))
    | frz q => exact .base (.frz (g _ _ q))
    | tup q => exact .base (.tup (g _ _ q))
    | dK q => exact .base (.dK (g _ _ q))
    | dT q => exact .base (.dT (g _ _ q))
    | ins q cl ha hn htk hm => exact .base (.ins (g _ _ q) cl ha hn htk hm)
  | byt b => exact .byt b
  | set q => exact .set (g _ _ q)
  | kList q c => exact .kList q c
  | kTuple q c => exact .kTuple q c
  | kDict q c => exact .kDict q c
  | fTuple q => exact .fTuple (g _ _ q)
  | fDict q => exact .fDict (g _ _ q)
theorem Any.same {K : PySem.W.Frag} {H H1 : Hp} {v : V} (h : Any K H v) (g : Same H H1) : Any K H1 v := by
  cases h with
  | non => exact .non
  | bl b => exact .bl b
  | int i => exact .int i
  | str q => exact .str q
  | lst q => exact .lst (tyx_same q g)
  | tup q => exact .tup (tyx_same q g)
  | dict q => exact .dict (tyx_same q g)
theorem Any.go {K : PySem.W.Frag} {H H1 : Hp} {v : V} {p c c2 : Addr} {n m : Nat} (h : Any K H v) (hp : PenAt H p c n) (hp1 : PenAt H1 p c2 m) (g : But p H H1) : Any K H1 v := by
  cases h with
  | non => exact .non
  | bl b => exact .bl b
  | int i => exact .int i
  | str q => exact .str q
  | lst q => exact .lst (tyx_go q hp hp1 g)
  | tup q => exact .tup (tyx_go q hp hp1 g)
  | dict q => exact .dict (tyx_go q hp hp1 g)
theorem Th.same {K : PySem.W.Frag} {H H1 : Hp} {v : V} {o : Option (V × V)} (h : Th K H v o) (g : Same H H1) : Th K H1 v o := by
  cases h with
  | two q y z => exact .two (same_seqT g q) (y.same g) (z.same g)
  | few q n => exact .few (same_seqT g q) n
  | other q k => exact .other (tyx_same q g) k
theorem Th.go {K : PySem.W.Frag} {H H1 : Hp} {v : V} {o : Option (V × V)} {p c c2 : Addr} {n m : Nat} (h : Th K H v o) (hp : PenAt H p c n) (hp1 : PenAt H1 p c2 m) (g : But p H H1) : Th K H1 v o := by
  cases h with
  | two q y z => exact .two (seqT_go q hp g) (y.go hp hp1 g) (z.go hp hp1 g)
  | few q n => exact .few (seqT_go q hp g) n
  | other q k => exact .other (tyx_go q hp hp1 g) k
theorem alloc2 {H H1 : Hp} {l : Addr} {o o2 : HO} (hl : H l = none) (e : upd (upd H l o) l o2 = H1) : Same H H1 ∧ H1 l = some o2 := by
  subst e
  exact ⟨same_own (same_new (Same.refl _) hl) hl, upd_same⟩
theorem nat_log {b : Nat} (h : b ≤ 40) : ((b : Int)).natAbs.log2 < 1920 := by
  have e : ((b : Int)).natAbs = b := by omega
  rw [e]
  rcases Nat.eq_zero_or_pos b with z | z
  · rw [z]; decide +kernel
  · refine Nat.lt_trans ((Nat.log2_lt (by omega)).mpr (show b < 2 ^ 6 by omega)) (by decide)
theorem nat_tok {b : Nat} (h : b ≤ 40) : TOk 400 (Str.ofString (toString (b : Int))) := by
  exact (int_tok (k := 6) (by show ((b : Int)).natAbs < 2 ^ 6; omega) (by decide)).mono (by decide)
def spOdd (K : PySem.W.Frag) : Sp := fun vs H0 Q _ => ∃ (p c : Addr) (n : Nat) (b r : Nat), vs = [.ref p, .int b, .int r] ∧ PenAt H0 p c n ∧ Cells K H0 p c ∧ n ≤ 90000 ∧ b ≤ 40 ∧ r ≤ 40 ∧
  ∀ H' v o, Go K p c H0 (n + 1) H' → Th K H' v o → Q v H'
theorem ok_odd (T : Txt w K mg) : FnOk P w K mg base CX0 2 T.a_odd T.d_odd ["_law_pen", "_law_b", "_law_r"] (spOdd K) := by
  have G_draw := ok_draw (P := P) (base := base) T
  refine T.F_odd.ok sc_odd (fun vs H Q E h => ?_) (fun cdv A outer s H0 vs Q E hr h => ?_)
  · obtain ⟨p, c, n, b, r, rfl, _⟩ := h
    rfl
  · obtain ⟨p, c, n, b, r, rfl, hp, hc, hn, lb, lr, k⟩ := h
    have hr_draw := hr
    refine ⟨_, (pss_cons (ps_set (i := 3) sc_odd.nd rfl (by first | exact Or.inl rfl | exact Or.inr rfl) (pe_lst (pa_cons (pe_tup (pa_cons (pv 1) (pa_cons (pv 2) (pa_cons pe_int pa_nil)))) (pa_cons (pe_tup (pa_cons (pv 1) pa_nil)) (pa_cons (pe_lst (pa_cons (pv 1) (pa_cons (pv 2) pa_nil))) (pa_cons (pe_tup pa_nil) (pa_cons (pe_tup (pa_cons (pv 1) (pa_cons (pe_un un_neg pe_int) pa_nil))) (pa_cons (pe_tup (pa_cons (pe_un un_neg pe_int) (pa_cons (pv 2) pa_nil))) (pa_cons (pe_tup (pa_cons (pv 1) (pa_cons pe_int pa_nil))) (pa_cons (pe_tup (pa_cons pe_int (pa_cons (pv 2) pa_nil))) (pa_cons (pe_tup (pa_cons pe_bl (pa_cons (pv 2) pa_nil))) (pa_cons (pe_tup (pa_cons (pv 1) (pa_cons pe_bl pa_nil))) (pa_cons (pe_tup (pa_cons (pe_callTy call_str_int (by rfl) T.z_str (by decide +kernel) (pa_cons (pv 1) pa_nil)) (pa_cons (pv 2) pa_nil))) (pa_cons pe_non pa_nil))))))))))))))
  (pss_cons (ps_set (i := 3) sc_odd.nd rfl (by first | exact Or.inl rfl | exact Or.inr rfl) (pe_op op_cat (pv 3) (pe_lst (pa_cons (pe_tup (pa_cons (pv 1) (pa_cons pe_non pa_nil))) (pa_cons pe_dnewK (pa_cons (pe_disp (pps_cons (pv 1) (pv 2) pps_nil) (by rfl) (by rfl) (fun z => by cases z) (by decide)) (pa_cons (pv 1) (pa_cons pe_str (pa_cons (pe_tup (pa_cons (pe_tup (pa_cons (pv 1) (pa_cons (pv 2) pa_nil))) pa_nil)) (pa_cons (pe_tup (pa_cons (pe_lst (pa_cons (pv 1) pa_nil)) (pa_cons (pv 2) pa_nil))) (pa_cons (pe_tup (pa_cons (pv 1) (pa_cons pe_dnewK pa_nil))) (pa_cons (pe_tup (pa_cons (pe_op op_pow pe_int pe_int) (pa_cons (pv 2) pa_nil))) (pa_cons (pe_tup (pa_cons (pv 1) (pa_cons (pe_op op_sub pe_int (pe_op op_pow pe_int pe_int)) pa_nil))) pa_nil)))))))))))))
  (pss_one (ps_ret (pe_ix (kx_list K) (pv 3) (pe_call G_draw hr_draw (by rfl) T.g_draw T.F_draw.kp T.b_draw .nil pass0 (pa_cons (pv 0) (pa_cons (pe_callB (k_len K) (by rfl) T.z_len (by decide +kernel) (pa_cons (pv 3) pa_nil)) pa_nil))) (fun _ _ => rfl)))))), ?_⟩
    refine ⟨_, rfl, _, rfl, (by show 3 ≤ sizeLine; decide), fun p1 h1 => ?_⟩
    generalize hX : upd H0 p1 _ = H1
    obtain ⟨S1, f1⟩ := alloc h1 hX
    clear hX
    refine ⟨_, rfl, (by show 1 ≤ sizeLine; decide), fun p2 h2 => ?_⟩
    generalize hX : upd H1 p2 _ = H2
    obtain ⟨S2, f2⟩ := alloc h2 hX
    clear hX
    refine ⟨_, rfl, _, rfl, (by show 2 ≤ sizeLine; decide), fun p3 h3 => ?_⟩
    generalize hX : upd H2 p3 _ = H3
    obtain ⟨S3, f3⟩ := alloc h3 hX
    clear hX
    refine ⟨(by show 0 ≤ sizeLine; decide), fun p4 h4 => ?_⟩
    generalize hX : upd H3 p4 _ = H4
    obtain ⟨S4, f4⟩ := alloc h4 hX
    clear hX
    refine ⟨_, rfl, _, rfl, (by show 2 ≤ sizeLine; decide), fun p5 h5 => ?_⟩
    generalize hX : upd H4 p5 _ = H5
    obtain ⟨S5, f5⟩ := alloc h5 hX
    clear hX
    refine ⟨_, rfl, _, rfl, (by show 2 ≤ sizeLine; decide), fun p6 h6 => ?_⟩
    generalize hX : upd H5 p6 _ = H6
    obtain ⟨S6, f6⟩ := alloc h6 hX
    clear hX
    refine ⟨_, rfl, (by show 2 ≤ sizeLine; decide), fun p7 h7 => ?_⟩
    generalize hX : upd H6 p7 _ = H7
    obtain ⟨S7, f7⟩ := alloc h7 hX
    clear hX
    refine ⟨_, rfl, (by show 2 ≤ sizeLine; decide), fun p8 h8 => ?_⟩
    generalize hX : upd H7 p8 _ = H8
    obtain ⟨S8, f8⟩ := alloc h8 hX
    clear hX
    refine ⟨_, rfl, (by show 2 ≤ sizeLine; decide), fun p9 h9 => ?_⟩
    generalize hX : upd H8 p9 _ = H9
    obtain ⟨S9, f9⟩ := alloc h9 hX
    clear hX
    refine ⟨_, rfl, (by show 2 ≤ sizeLine; decide), fun p10 h10 => ?_⟩
    generalize hX : upd H9 p10 _ = H10
    obtain ⟨S10, f10⟩ := alloc h10 hX
    clear hX
    refine ⟨_, rfl, _, rfl, nat_log lb, _, rfl, (by show 2 ≤ sizeLine; decide), fun p11 h11 => ?_⟩
    generalize hX : upd H10 p11 _ = H11
    obtain ⟨S11, f11⟩ := alloc h11 hX
    clear hX
    refine ⟨(by show 12 ≤ sizeLine; decide), fun p12 h12 => ?_⟩
    generalize hX : upd H11 p12 _ = H12
    obtain ⟨S12, f12⟩ := alloc h12 hX
    clear hX
    refine ⟨_, rfl, _, rfl, (by show 2 ≤ sizeLine; decide), fun p13 h13 => ?_⟩
    generalize hX : upd H12 p13 _ = H13
    obtain ⟨S13, f13⟩ := alloc h13 hX
    clear hX
    intro p14 h14
    generalize hX : upd H13 p14 _ = H14
    obtain ⟨S14, f14⟩ := alloc h14 hX
    clear hX
    intro p15 h15
    refine ⟨_, rfl, _, rfl, upd_same, [(.inl (b : Int), .int (r : Int))], rfl, (by show 1 ≤ 15; decide), ?_⟩
    generalize hX : upd (upd H14 p15 _) p15 _ = H15
    obtain ⟨S15, f15⟩ := alloc2 h15 hX
    clear hX
    refine ⟨_, rfl, _, rfl, _, rfl, (by show 2 ≤ sizeLine; decide), fun p16 h16 => ?_⟩
    generalize hX : upd H15 p16 _ = H16
    obtain ⟨S16, f16⟩ := alloc h16 hX
    clear hX
    refine ⟨(by show 1 ≤ sizeLine; decide), fun p17 h17 => ?_⟩
    generalize hX : upd H16 p17 _ = H17
    obtain ⟨S17, f17⟩ := alloc h17 hX
    clear hX
    refine ⟨_, rfl, (by show 1 ≤ sizeLine; decide), fun p18 h18 => ?_⟩
    generalize hX : upd H17 p18 _ = H18
    obtain ⟨S18, f18⟩ := alloc h18 hX
    clear hX
    refine ⟨_, rfl, (by show 2 ≤ sizeLine; decide), fun p19 h19 => ?_⟩
    generalize hX : upd H18 p19 _ = H19
    obtain ⟨S19, f19⟩ := alloc h19 hX
    clear hX
    refine ⟨_, rfl, fun p20 h20 => ?_⟩
    generalize hX : upd H19 p20 _ = H20
    obtain ⟨S20, f20⟩ := alloc h20 hX
    clear hX
    refine ⟨(by show 2 ≤ sizeLine; decide), fun p21 h21 => ?_⟩
    generalize hX : upd H20 p21 _ = H21
    obtain ⟨S21, f21⟩ := alloc h21 hX
    clear hX
    refine ⟨_, _, rfl, rfl, ⟨by decide, by decide, by decide⟩, _, rfl, (by show 2 ≤ sizeLine; decide), fun p22 h22 => ?_⟩
    generalize hX : upd H21 p22 _ = H22
    obtain ⟨S22, f22⟩ := alloc h22 hX
    clear hX
    refine ⟨_, rfl, _, _, rfl, rfl, ⟨by decide, by decide, by decide⟩, _, _, rfl, rfl, (by show 2 ≤ sizeLine; decide), fun p23 h23 => ?_⟩
    generalize hX : upd H22 p23 _ = H23
    obtain ⟨S23, f23⟩ := alloc h23 hX
    clear hX
    refine ⟨(by show 10 ≤ sizeLine; decide), fun p24 h24 => ?_⟩
    generalize hX : upd H23 p24 _ = H24
    obtain ⟨S24, f24⟩ := alloc h24 hX
    clear hX
    have T24 : Same H24 H24 := Same.refl _
    have T23 := S24.trans T24
    have T22 := S23.trans T23
    have T21 := S22.trans T22
    have T20 := S21.trans T21
    have T19 := S20.trans T20
    have T18 := S19.trans T19
    have T17 := S18.trans T18
    have T16 := S17.trans T17
    have T15 := S16.trans T16
    have T14 := S15.trans T15
    have T13 := S14.trans T14
    have T12 := S13.trans T13
    have T11 := S12.trans T12
    have T10 := S11.trans T11
    have T9 := S10.trans T10
    have T8 := S9.trans T9
    have T7 := S8.trans T8
    have T6 := S7.trans T7
    have T5 := S6.trans T6
    have T4 := S5.trans T5
    have T3 := S4.trans T4
    have T2 := S3.trans T3
    have T1 := S2.trans T2
    have T0 := S1.trans T1
    refine ⟨p12, p24, _, _, rfl, rfl, T12 _ _ f12, f24, Nat.le_of_lt (Nat.lt_of_le_of_lt (show 22 ≤ 100000 by decide) (by decide)), fun p25 h25 => ?_⟩
    generalize hX : upd H24 p25 _ = H25
    obtain ⟨S25, f25⟩ := alloc h25 hX
    clear hX
    have g24 := (Go.refl hp hc).same T0
    have g25 := g24.same S25
    have n25 := Ne.symm (g24.ne_new h25)
    refine ⟨_, rfl, _, rfl, _, rfl, p25, _, rfl, .inl (SqL.of f25), p, c, n, _, rfl, g25.pen, g25.cel, by omega, (by show (1 : Int) ≤ 22; decide), (by show (22 : Int) < 1073741824; decide), fun H' j g a1 b1 => ?_⟩
    obtain ⟨v, hv, ev⟩ := atI_lt (xs := [V.ref p1, V.ref p2, V.ref p3, V.ref p4, V.ref p5, V.ref p6, V.ref p7, V.ref p8, V.ref p9, V.ref p10, V.ref p11, V.non, V.ref p13, V.ref p14, V.ref p15, V.int b, V.str (Str.ofString "br"), V.ref p17, V.ref p19, V.ref p21, V.ref p22, V.ref p23]) a1 (by show j < ((22 : Nat) : Int); exact b1)
    have th : ∃ o, Th K H24 v o := by
      simp only [List.mem_cons, List.not_mem_nil, or_false] at hv
      rcases hv with rfl | rfl | rfl | rfl | rfl | rfl | rfl | rfl | rfl | rfl | rfl | rfl | rfl | rfl | rfl | rfl | rfl | rfl | rfl | rfl | rfl | rfl
      · exact ⟨_, .few (SqT.of (T1 _ _ f1)) (by show 3 ≠ 2; decide)⟩
      · exact ⟨_, .few (SqT.of (T2 _ _ f2)) (by show 1 ≠ 2; decide)⟩
      · exact ⟨_, .other (.base (.lst (T3 _ _ f3))) (kit_ty (by decide +kernel))⟩
      · exact ⟨_, .few (SqT.of (T4 _ _ f4)) (by show 0 ≠ 2; decide)⟩
      · exact ⟨_, .two (SqT.of (T5 _ _ f5)) (.int _) (.int _)⟩
      · exact ⟨_, .two (SqT.of (T6 _ _ f6)) (.int _) (.int _)⟩
      · exact ⟨_, .two (SqT.of (T7 _ _ f7)) (.int _) (.int _)⟩
      · exact ⟨_, .two (SqT.of (T8 _ _ f8)) (.int _) (.int _)⟩
      · exact ⟨_, .two (SqT.of (T9 _ _ f9)) (.bl _) (.int _)⟩
      · exact ⟨_, .two (SqT.of (T10 _ _ f10)) (.int _) (.bl _)⟩
      · exact ⟨_, .two (SqT.of (T11 _ _ f11)) (.str (nat_tok lb)) (.int _)⟩
      · exact ⟨_, .other (.base .non) (kit_ty (by decide +kernel))⟩
      · exact ⟨_, .two (SqT.of (T13 _ _ f13)) (.int _) .non⟩
      · exact ⟨_, .other (.base (.dK (T14 _ _ f14))) (kit_ty (by decide +kernel))⟩
      · exact ⟨_, .other (.base (.dK (T15 _ _ f15))) (kit_ty (by decide +kernel))⟩
      · exact ⟨_, .other (.base (.int _)) (kit_ty (by decide +kernel))⟩
      · exact ⟨_, .other (.base (.str _)) (kit_ty (by decide +kernel))⟩
      · exact ⟨_, .few (SqT.of (T17 _ _ f17)) (by show 1 ≠ 2; decide)⟩
      · exact ⟨_, .two (SqT.of (T19 _ _ f19)) (.lst (.base (.lst (T18 _ _ f18)))) (.int _)⟩
      · exact ⟨_, .two (SqT.of (T21 _ _ f21)) (.int _) (.dict (.base (.dK (T20 _ _ f20))))⟩
      · exact ⟨_, .two (SqT.of (T22 _ _ f22)) (.int _) (.int _)⟩
      · exact ⟨_, .two (SqT.of (T23 _ _ f23)) (.int _) (.int _)⟩
    obtain ⟨o, th⟩ := th
    refine ⟨p25, _, _, _, rfl, rfl, g.but.seqL n25 (SqL.of f25), ev, k H' v o (g25.trans g) ((th.same S25).go g25.pen g.pen g.but)⟩
/-! ### what is no pair is refused -/
def spRefused (K : PySem.W.Frag) : Sp := fun vs H Q _ => ∃ (ta tb : Addr) (v : V) (A B : List Row) (o : Option (V × V)) (lag : Int), vs = [.ref ta, .ref tb, v, .int lag] ∧ LogAt K H ta A ∧ LogAt K H tb B ∧ (∀ r ∈ A, r.Ok) ∧ (∀ r ∈ B, r.Ok) ∧ Th K H v o ∧ thP A B o = false ∧
  ∀ H', Same H H' → Q (.bl true) H'
theorem ok_refused (T : Txt w K mg) : FnOk P w K mg base CX0 5 T.a_refused T.d_refused ["_law_deck", "_law_hold", "_law_given", "_law_slow"] (spRefused K) := by
  have GX_span := ok_span (P := P) (base := base) T
  refine T.F_refused.ok sc_refused (fun vs H Q E h => ?_) (fun cdv A' outer s H vs Q E hr h => ?_)
  · obtain ⟨ta, tb, v, A, B, o, lag, rfl, _⟩ := h
    rfl
  · obtain ⟨ta, tb, v, A, B, o, lag, rfl, hA, hB, oA, oB, hth, bad, k⟩ := h
    have hrX_span := hr
    refine ⟨_, (pss_cons (ps_set (i := 4) sc_refused.nd rfl (by first | exact Or.inl rfl | exact Or.inr rfl) pe_non)
  (pss_cons (ps_try_keep (i := 5) rfl rfl rfl sc_refused.nd rfl rfl ⟨rfl, by decide, .inl T.c_RingError⟩ L2.takes0 (fun W pn xe tk _ => (pss_one (ps_expr (pe_callSD (E := fun σ => WE W σ) GX_span hrX_span (by rfl) T.g_span T.F_span.kp T.b4_span T.v4_span (fun σ => passAt tk σ) (pa_cons (pv 0) (pa_cons (pv 1) (pa_cons (pv 2) (pa_cons (pv 3) pa_nil)))))))) (fun a ob cls d pn hz hf => (pss_one (ps_set (i := 4) sc_refused.nd rfl (by first | exact Or.inl rfl | exact Or.inr rfl) (pv 5)))))
  (pss_cons (ps_if (pt_val (pe_callB (k_isiTZ K) (by rfl) T.z_isinstance (by decide +kernel) (pa_cons (pv 4) (pa_cons (pe_tup (pa_cons (pe_glob (v := .ref T.C_NoCard) (by rfl) T.c_NoCard rfl) (pa_cons (pe_glob (v := .ref T.C_NoLine) (by rfl) T.c_NoLine rfl) (pa_cons (pe_glob (v := .ref T.C_NoLog) (by rfl) T.c_NoLog rfl) (pa_cons (pe_glob (v := .ref T.C_NoRow) (by rfl) T.c_NoRow rfl) (pa_cons (pe_glob (v := .ref T.C_NoStretch) (by rfl) T.c_NoStretch rfl) (pa_cons (pe_glob (v := .ref T.C_NoText) (by rfl) T.c_NoText rfl) (pa_cons (pe_glob (v := .ref T.C_Taken) (by rfl) T.c_Taken rfl) pa_nil)))))))) pa_nil)))) (pss_one (ps_ret pe_bl)) pss_nil)
  (pss_cons (ps_if (pt_val (pe_callB (k_isiTZ K) (by rfl) T.z_isinstance (by decide +kernel) (pa_cons (pv 4) (pa_cons (pe_tup (pa_cons (pe_glob (v := .ref T.C_Full) (by rfl) T.c_Full rfl) (pa_cons (pe_glob (v := .ref T.C_Late) (by rfl) T.c_Late rfl) (pa_cons (pe_glob (v := .ref T.C_NoNumber) (by rfl) T.c_NoNumber rfl) (pa_cons (pe_glob (v := .ref T.C_Nothing) (by rfl) T.c_Nothing rfl) (pa_cons (pe_glob (v := .ref T.C_Unknown) (by rfl) T.c_Unknown rfl) pa_nil)))))) pa_nil)))) (pss_one (ps_ret pe_bl)) pss_nil)
  (pss_one (ps_ret (pe_and (pe_callB (k_isiZ K) (by rfl) T.z_isinstance (by decide +kernel) (pa_cons (pv 4) (pa_cons (pe_glob (v := .ref T.C_NoPair) (by rfl) T.c_NoPair rfl) pa_nil))) (pe_one (pe_callB (k_isiZ K) (by rfl) T.z_isinstance (by decide +kernel) (pa_cons (pv 4) (pa_cons (pe_bltn (v := .ty "ValueError") (by rfl) T.z_ValueError (by decide +kernel) rfl) pa_nil))))))))))), ?_⟩
    refine ⟨_, rfl, _, rfl, _, rfl, _, rfl, ta, tb, v, A, B, o, lag, rfl, hA, hB, oA, oB, hth, fun b r x y e hx hy lk => ?_, fun _ H1 S1 => ⟨true, T.q_catch, fun _ a ha => ?_, fun z => nomatch z⟩⟩
    · rw [e, thP_pr hx hy, lk] at bad
      cases bad
    refine ⟨_, rfl, _, rfl, (by show 7 ≤ sizeLine; decide), fun t ht => ?_⟩
    generalize hX : upd H1 a (ExH (.ref T.C_NoPair) none a) = H2 at ht ⊢
    obtain ⟨S2, f2⟩ := alloc ha hX
    clear hX
    generalize hX : upd H2 t _ = H3
    obtain ⟨S3, f3⟩ := alloc ht hX
    clear hX
    refine ⟨_, t, _, _, _, false, rfl, f3, .cons (.own _) (.cons (.own _) (.cons (.own _) (.cons (.own _) (.cons (.own _) (.cons (.own _) (.cons (.own _) .nil)))))), .exc (S3 _ _ f2) T.e_NoPair, T.q_vals, _, rfl, ?_⟩
    refine iteF ?_
    refine ⟨_, rfl, (by show 5 ≤ sizeLine; decide), fun t2 ht2 => ?_⟩
    generalize hX : upd H3 t2 _ = H4
    obtain ⟨S4, f4⟩ := alloc ht2 hX
    clear hX
    refine ⟨_, t2, _, _, _, false, rfl, f4, .cons (.own _) (.cons (.own _) (.cons (.own _) (.cons (.own _) (.cons (.own _) .nil)))), .exc (S4 _ _ (S3 _ _ f2)) T.e_NoPair, T.q_oth, _, rfl, ?_⟩
    refine iteF ?_
    refine ⟨_, rfl, _, _, _, _, true, rfl, .own _, .exc (S4 _ _ (S3 _ _ f2)) T.e_NoPair, T.q_own, _, rfl, ?_⟩
    refine iteT ?_
    refine ⟨_, rfl, _, _, _, _, true, rfl, .ty _, .exc (S4 _ _ (S3 _ _ f2)) T.e_NoPair, T.q_val, ?_⟩
    exact k H4 (S1.trans (S2.trans (S3.trans S4)))
/-! ### a pair's span -/
theorem only_pair {A B : List Row} {b r : Nat} {x y : Row} {R : Nat → Nat → Row → Row → Prop} (hx : A[b]? = some x) (hy : B[r]? = some y) (k : R b r x y) (b2 r2 : Nat) (x2 y2 : Row) (e : some (V.int (b : Int), V.int (r : Int)) = some (V.int (b2 : Int), V.int (r2 : Int)))
    (hx2 : A[b2]? = some x2) (hy2 : B[r2]? = some y2) (_ : likeP x2 y2 = true) : R b2 r2 x2 y2 := by
  injection e with e
  injection e with e1 e2
  injection e1 with e1
  injection e2 with e2
  obtain rfl : b = b2 := by omega
  obtain rfl : r = r2 := by omega
  rw [hx] at hx2
  rw [hy] at hy2
  cases hx2
  cases hy2
  exact k
theorem no_bad {A B : List Row} {b r : Nat} {x y : Row} {R : Prop} (hx : A[b]? = some x) (hy : B[r]? = some y) (lk : likeP x y = true) (bad : thP A B (some (.int (b : Int), .int (r : Int))) = false) : R := by
  rw [thP_pr hx hy, lk] at bad
  cases bad
theorem late_two (x y : Row) (lag : Int) : (lateP x y (lowP x y lag) = lag ∧ lateP x y (highP x y lag) = 0) ∨ (lateP x y (lowP x y lag) = 0 ∧ lateP x y (highP x y lag) = lag) := by
  unfold lateP lowP highP
  split
  · left; constructor <;> omega
  · right; constructor <;> omega
theorem sort_two {ns : List Int} {p q lag : Int} (h : ns.Perm [p, q]) (s : ns.Pairwise (· ≤ ·)) (l0 : 0 ≤ lag) (e : (p = lag ∧ q = 0) ∨ (p = 0 ∧ q = lag)) : ns = [0, lag] := by
  have hl := h.length_eq
  match ns, hl with
  | [i, j], _ =>
    have hi : i = p ∨ i = q := by simpa using h.mem_iff.mp (List.mem_cons_self ..)
    have hs : i + j = p + q := by
      rcases hi with rfl | rfl
      · have := (List.perm_cons i).mp h
        have : j = q := by simpa using this.mem_iff.mp (List.mem_cons_self ..)
        omega
      · have := (List.perm_cons i).mp (h.trans (List.Perm.swap i p []))
        have : j = p := by simpa using this.mem_iff.mp (List.mem_cons_self ..)
        omega
    have le : i ≤ j := (List.pairwise_cons.mp s).1 j (List.mem_cons_self ..)
    have : i = 0 ∧ j = lag := by rcases e with ⟨rfl, rfl⟩ | ⟨rfl, rfl⟩ <;> rcases hi with z | z <;> omega
    rw [this.1, this.2]
theorem span_small {x y : Row} {lag : Int} (xo : x.Ok) (yo : y.Ok) (l0 : 0 ≤ lag) (l1 : lag ≤ 60) : (lowP x y lag).natAbs < 2 ^ 398 ∧ (highP x y lag).natAbs < 2 ^ 398 := by
  have a1 := xo.m0
  have a2 := xo.m1
  have a3 := yo.m0
  have a4 := yo.m1
  have two : (1000000 : Nat) < 2 ^ 398 := by decide +kernel
  unfold lowP highP
  constructor <;> split <;> omega
theorem eqv_rep {d : PyData} {k n : Nat} (h : RepOk d k n) : PyData.eqv d d = true := PySem.SeqAt.eqv_refl d h.cl
theorem low_high0 (x y : Row) : lowP x y 0 = highP x y 0 ∧ lateP x y (lowP x y 0) = 0 := by
  unfold lateP lowP highP
  split <;> constructor <;> omega
def spSpanRight (K : PySem.W.Frag) : Sp := fun vs H Q _ => ∃ (ta tb : Addr) (A B : List Row) (b r : Nat) (x y : Row) (lag : Int), vs = [.ref ta, .ref tb, .int b, .int r, .int lag] ∧ LogAt K H ta A ∧ LogAt K H tb B ∧ (∀ r ∈ A, r.Ok) ∧ (∀ r ∈ B, r.Ok) ∧ A[b]? = some x ∧ B[r]? = some y ∧ likeP x y = true ∧ 0 ≤ lag ∧ lag ≤ 60 ∧
  ∀ H', Same H H' → Q (.bl true) H'
theorem ok_span_right (T : Txt w K mg) : FnOk P w K mg base CX0 5 T.a_span_right T.d_span_right ["_law_deck", "_law_hold", "_law_b", "_law_r", "_law_slow"] (spSpanRight K) := by
  have G_span := ok_span (P := P) (base := base) T
  have G_late := ok_late (P := P) (base := base) T
  refine T.F_span_right.ok sc_span_right (fun vs H Q E h => ?_) (fun cdv A' outer s H vs Q E hr h => ?_)
  · obtain ⟨ta, tb, A, B, b, r, x, y, lag, rfl, _⟩ := h
    rfl
  · obtain ⟨ta, tb, A, B, b, r, x, y, lag, rfl, hA, hB, oA, oB, hx, hy, lk, l0, l1, k⟩ := h
    have hr_span := hr
    have hr_late := hr.mono (show 1 ≤ 4 by decide)
    refine ⟨_, (pss_cons (ps_set (i := 5) sc_span_right.nd rfl (by first | exact Or.inl rfl | exact Or.inr rfl) (pe_call G_span hr_span (by rfl) T.g_span T.F_span.kp T.b4_span T.v4_span passL (pa_cons (pv 0) (pa_cons (pv 1) (pa_cons (pe_tup (pa_cons (pv 2) (pa_cons (pv 3) pa_nil))) (pa_cons (pv 4) pa_nil))))))
  (pss_cons (ps_if (PW.pt (pw_or (pt_not (pt_val (pe_callB (k_isi K) (by rfl) T.z_isinstance (by decide +kernel) (pa_cons (pv 5) (pa_cons (pe_bltn (v := .ty "tuple") (by rfl) T.z_tuple (by decide +kernel) rfl) pa_nil))))) (pw_or (pt_cmpR op_ne (pe_callB (k_len K) (by rfl) T.z_len (by decide +kernel) (pa_cons (pv 5) pa_nil)) pe_int (nomark _)) (pw_or1 (pt_not (pt_val (pe_callB (k_isi K) (by rfl) T.z_isinstance (by decide +kernel) (pa_cons (pe_ix (kx_tup K) (pv 5) pe_int (fun _ _ => rfl)) (pa_cons (pe_bltn (v := .ty "int") (by rfl) T.z_int (by decide +kernel) rfl) pa_nil))))))))) (pss_one (ps_ret pe_bl)) pss_nil)
  (pss_cons (ps_asg (pv 5) (k_pgT (n := 2) K rfl (pgs_cons (pg_name (i := 6) sc_span_right.nd rfl (by first | exact Or.inl rfl | exact Or.inr rfl)) (pgs_cons (pg_name (i := 7) sc_span_right.nd rfl (by first | exact Or.inl rfl | exact Or.inr rfl)) pgs_nil))))
  (pss_cons (ps_set (i := 8) sc_span_right.nd rfl (by first | exact Or.inl rfl | exact Or.inr rfl) (pe_callB (k_sorted K) (by rfl) T.z_sorted (by decide +kernel) (pa_cons (pe_lst (pa_cons (pe_call G_late hr_late (by rfl) T.g_late T.F_late.kp T.b_late .nil pass0 (pa_cons (pv 0) (pa_cons (pv 1) (pa_cons (pv 2) (pa_cons (pv 3) (pa_cons (pv 6) pa_nil)))))) (pa_cons (pe_call G_late hr_late (by rfl) T.g_late T.F_late.kp T.b_late .nil pass0 (pa_cons (pv 0) (pa_cons (pv 1) (pa_cons (pv 2) (pa_cons (pv 3) (pa_cons (pv 7) pa_nil)))))) pa_nil))) pa_nil)))
  (pss_cons (ps_if (PW.pt (pw_or (pt_val (pe_callB (k_isi K) (by rfl) T.z_isinstance (by decide +kernel) (pa_cons (pv 6) (pa_cons (pe_bltn (v := .ty "bool") (by rfl) T.z_bool (by decide +kernel) rfl) pa_nil)))) (pw_or (pt_not (pt_val (pe_callB (k_isi K) (by rfl) T.z_isinstance (by decide +kernel) (pa_cons (pv 7) (pa_cons (pe_bltn (v := .ty "int") (by rfl) T.z_int (by decide +kernel) rfl) pa_nil))))) (pw_or (pt_val (pe_callB (k_isi K) (by rfl) T.z_isinstance (by decide +kernel) (pa_cons (pv 7) (pa_cons (pe_bltn (v := .ty "bool") (by rfl) T.z_bool (by decide +kernel) rfl) pa_nil)))) (pw_or1 (pt_cmpR op_gt (pv 6) (pv 7) (nomark _))))))) (pss_one (ps_ret pe_bl)) pss_nil)
  (pss_cons (ps_if (PW.pt (pw_or (pt_cmpR (k_neD K hr.units) (pv 8) (pe_lst (pa_cons pe_int (pa_cons (pv 4) pa_nil))) (nomark _)) (pw_or1 (pt_cmpR (k_neD K hr.units) (pe_callK0 G_span hr_span (by rfl) T.g_span T.F_span.kp T.kb0_span passL (pk_cons (pv 4) (pk_cons (pe_tup (pa_cons (pv 2) (pa_cons (pv 3) pa_nil))) (pk_cons (pv 1) (pk_cons (pv 0) pk_nil))))) (pv 5) (nomark _))))) (pss_one (ps_ret pe_bl)) pss_nil)
  (pss_cons (ps_set (i := 9) sc_span_right.nd rfl (by first | exact Or.inl rfl | exact Or.inr rfl) (pe_call G_span hr_span (by rfl) T.g_span T.F_span.kp T.b3_span T.v3_span passL (pa_cons (pv 0) (pa_cons (pv 1) (pa_cons (pe_tup (pa_cons (pv 2) (pa_cons (pv 3) pa_nil))) pa_nil)))))
  (pss_one (ps_ret (pe_and (pe_cmpR op_eq (pe_ix (kx_tup K) (pv 9) pe_int (fun _ _ => rfl)) (pe_ix (kx_tup K) (pv 9) pe_int (fun _ _ => rfl)) (nomark _)) (pe_one (pe_cmpR op_eq (pe_call G_late hr_late (by rfl) T.g_late T.F_late.kp T.b_late .nil pass0 (pa_cons (pv 0) (pa_cons (pv 1) (pa_cons (pv 2) (pa_cons (pv 3) (pa_cons (pe_ix (kx_tup K) (pv 9) pe_int (fun _ _ => rfl)) pa_nil)))))) pe_int (nomark _))))))))))))), ?_⟩
    refine ⟨_, rfl, _, rfl, _, rfl, _, rfl, (by show 2 ≤ sizeLine; decide), fun t ht => ?_⟩
    generalize hX : upd H t _ = H1
    obtain ⟨S1, f1⟩ := alloc ht hX
    clear hX
    refine ⟨_, rfl, ta, tb, .ref t, A, B, _, lag, rfl, hA.same S1, hB.same S1, oA, oB, .pr (z := (b, r)) (SqT.of f1), only_pair hx hy (fun H2 u S2 f2 _ => ?_), no_bad hx hy lk⟩
    have S02 := S1.trans S2
    refine ⟨_, rfl, _, _, _, _, true, rfl, ClsV.ty "tuple", .base (.tup f2), kit_ty (by decide +kernel), _, rfl, ?_⟩
    show if (!true) = true then _ else _
    refine iteF ?_
    refine ⟨_, rfl, u, _, rfl, .inr (SqT.of f2), rfl, _, rfl, ?_⟩
    show if false = true then _ else _
    refine iteF ?_
    refine ⟨_, rfl, u, _, 0, _, rfl, rfl, SqT.of f2, rfl, _, _, _, _, true, rfl, ClsV.ty "int", .base (.int _), kit_ty (by show kitB "int" "int" = some true; decide +kernel), _, rfl, ?_⟩
    show if (!true) = true then _ else _
    refine iteF ?_
    refine ⟨_, rfl, u, _, rfl, SqT.of f2, rfl, _, _, rfl, _, _, rfl, rfl, ?_⟩
    refine ⟨_, rfl, _, rfl, _, rfl, _, rfl, _, rfl, ta, tb, A, B, b, r, x, y, _, rfl, hA.same S02, hB.same S02, hx, hy, fun H3 S3 => ?_⟩
    have S03 := S02.trans S3
    refine ⟨_, rfl, _, rfl, _, rfl, _, rfl, _, rfl, ta, tb, A, B, b, r, x, y, _, rfl, hA.same S03, hB.same S03, hx, hy, fun H4 S4 => ?_⟩
    have S04 := S03.trans S4
    refine ⟨(by show 2 ≤ sizeLine; decide), fun l hl => ?_⟩
    generalize hX : upd H4 l _ = H5
    obtain ⟨S5, f5⟩ := alloc hl hX
    clear hX
    have S05 := S04.trans S5
    have two : (1000000 : Nat) < 2 ^ 398 := by decide +kernel
    have xo := oA x (List.mem_of_getElem? hx)
    have yo := oB y (List.mem_of_getElem? hy)
    refine ⟨l, [lateP x y (lowP x y lag), lateP x y (highP x y lag)], rfl, SqL.of f5, fun ns l2 pm st hl2 => ?_⟩
    obtain rfl := sort_two pm st l0 (late_two x y lag)
    generalize hX : upd H5 l2 _ = H6
    obtain ⟨S6, f6⟩ := alloc hl2 hX
    clear hX
    have S06 := S05.trans S6
    refine ⟨_, rfl, _, _, _, _, false, rfl, ClsV.ty "bool", .base (.int _), kit_ty (by show kitB "int" "bool" = some false; decide +kernel), _, rfl, ?_⟩
    refine iteF ?_
    refine ⟨_, rfl, _, _, _, _, true, rfl, ClsV.ty "int", .base (.int _), kit_ty (by show kitB "int" "int" = some true; decide +kernel), _, rfl, ?_⟩
    show if (!true) = true then _ else _
    refine iteF ?_
    refine ⟨_, rfl, _, _, _, _, false, rfl, ClsV.ty "bool", .base (.int _), kit_ty (by show kitB "int" "bool" = some false; decide +kernel), _, rfl, ?_⟩
    refine iteF ?_
    have sw : highP x y lag - lowP x y lag = lag := by
      unfold highP lowP
      split <;> omega
    refine ⟨_, rfl, _, rfl, _, _, rfl, rfl, _, rfl, ?_⟩
    show if decide (highP x y lag < lowP x y lag) = true then _ else _
    rw [decide_eq_false (show ¬ (highP x y lag < lowP x y lag) by omega)]
    refine iteF ?_
    refine ⟨_, rfl, _, rfl, (by show 2 ≤ sizeLine; decide), fun l3 hl3 => ?_⟩
    generalize hX : upd H6 l3 _ = H7
    obtain ⟨S7, f7⟩ := alloc hl3 hX
    clear hX
    have S07 := S06.trans S7
    have rl : RepOk (.list ([(0 : Int), lag].map PyData.int)) 1 2 := (RepOk.list (k := 0) (n := 0) fun d hd => by
      have z : d = .int 0 ∨ d = .int lag := by simpa using hd
      rcases z with rfl | rfl <;> exact RepOk.int (by omega)).mono (Nat.le_refl _) (by show 2 * 1 ≤ 2; decide)
    refine ⟨_, _, .lst (SqL.of (S7 _ _ f6)) (dpAll_ints [0, lag]), .lst (SqL.of f7) (dpAll_ints [0, lag]), rl.shaped (by decide), rl.shaped (by decide), ?_⟩
    rw [eqv_rep rl]
    refine ⟨_, rfl, ?_⟩
    show if false = true then _ else _
    refine iteF ?_
    refine ⟨_, rfl, _, rfl, _, rfl, (by show 2 ≤ sizeLine; decide), fun t2 ht2 => ?_⟩
    generalize hX : upd H7 t2 _ = H8
    obtain ⟨S8, f8⟩ := alloc ht2 hX
    clear hX
    have S08 := S07.trans S8
    refine ⟨_, rfl, _, rfl, ta, tb, .ref t2, A, B, _, lag, rfl, hA.same S08, hB.same S08, oA, oB, .pr (z := (b, r)) (SqT.of f8), only_pair hx hy (fun H9 u2 S9 f9 _ => ?_), no_bad hx hy lk⟩
    have S09 := S08.trans S9
    have rs := prD_rep (x := (lowP x y lag, highP x y lag)) (span_small xo yo l0 l1).1 (span_small xo yo l0 l1).2
    have S29 : Same H2 H9 := S3.trans (S4.trans (S5.trans (S6.trans (S7.trans (S8.trans S9)))))
    refine ⟨_, rfl, prD (lowP x y lag, highP x y lag), prD (lowP x y lag, highP x y lag), PrAt.dp (x := (lowP x y lag, highP x y lag)) (SqT.of f9), PrAt.dp (x := (lowP x y lag, highP x y lag)) (SqT.of (S29 _ _ f2)), rs.shaped (by decide), rs.shaped (by decide), ?_⟩
    rw [eqv_rep rs]
    refine ⟨_, rfl, ?_⟩
    show if false = true then _ else _
    refine iteF ?_
    refine ⟨_, rfl, _, rfl, _, rfl, _, rfl, (by show 2 ≤ sizeLine; decide), fun t3 ht3 => ?_⟩
    generalize hX : upd H9 t3 _ = H10
    obtain ⟨S10, f10⟩ := alloc ht3 hX
    clear hX
    have S010 := S09.trans S10
    refine ⟨ta, tb, .ref t3, A, B, _, 0, rfl, hA.same S010, hB.same S010, oA, oB, .pr (z := (b, r)) (SqT.of f10), only_pair hx hy (fun H11 u3 S11 f11 _ => ?_), no_bad hx hy lk⟩
    have S011 := S010.trans S11
    refine ⟨_, rfl, u3, _, 0, _, rfl, rfl, SqT.of f11, rfl, _, rfl, u3, _, 1, _, rfl, rfl, SqT.of f11, rfl, rfl, _, rfl, ?_⟩
    show if decide (V.int (lowP x y 0) = V.int (highP x y 0)) = true then _ else _
    rw [(low_high0 x y).1, decide_eq_true rfl]
    refine iteT ?_
    refine ⟨_, rfl, _, rfl, _, rfl, _, rfl, _, rfl, u3, _, 0, _, rfl, rfl, SqT.of f11, rfl, ta, tb, A, B, b, r, x, y, lowP x y 0, rfl, hA.same S011, hB.same S011, hx, hy, fun H12 S12 => ?_⟩
    rw [(low_high0 x y).2]
    refine ⟨rfl, ?_⟩
    exact k H12 (S011.trans S12)
/-! ### any thing is known as a pair or as none -/
def inBoth (A B : List Row) : Option (V × V) → Bool
  | some (y, z) => inLog A.length y && inLog B.length z
  | none => false
def spThingRight (K : PySem.W.Frag) : Sp := fun vs H Q _ => ∃ (ta tb : Addr) (v : V) (A B : List Row) (o : Option (V × V)) (lag : Int), vs = [.ref ta, .ref tb, v, .int lag] ∧ LogAt K H ta A ∧ LogAt K H tb B ∧ (∀ r ∈ A, r.Ok) ∧ (∀ r ∈ B, r.Ok) ∧ Th K H v o ∧ 0 ≤ lag ∧ lag ≤ 60 ∧
  ∀ H', Same H H' → Q (.bl true) H'
theorem ok_thing_right (T : Txt w K mg) : FnOk P w K mg base CX0 6 T.a_thing_right T.d_thing_right ["_law_deck", "_law_hold", "_law_given", "_law_slow"] (spThingRight K) := by
  have G_is_pair := ok_is_pair (P := P) (base := base) T
  have G_law_is_pair := ok_law_is_pair (P := P) (base := base) T
  have G_span_right := ok_span_right (P := P) (base := base) T
  have G_refused := ok_refused (P := P) (base := base) T
  refine T.F_thing_right.ok sc_thing_right (fun vs H Q E h => ?_) (fun cdv A' outer s H vs Q E hr h => ?_)
  · obtain ⟨ta, tb, v, A, B, o, lag, rfl, _⟩ := h
    rfl
  · obtain ⟨ta, tb, v, A, B, o, lag, rfl, hA, hB, oA, oB, hth, l0, l1, k⟩ := h
    have hr_is_pair := hr.mono (show 3 ≤ 5 by decide)
    have hr_law_is_pair := hr.mono (show 1 ≤ 5 by decide)
    have hr_span_right := hr
    have hr_refused := hr
    refine ⟨_, (C8.pss_cut (ps_set (i := 4) sc_thing_right.nd rfl (by first | exact Or.inl rfl | exact Or.inr rfl) (pe_and (pe_callB (k_isi K) (by rfl) T.z_isinstance (by decide +kernel) (pa_cons (pv 2) (pa_cons (pe_bltn (v := .ty "tuple") (by rfl) T.z_tuple (by decide +kernel) rfl) pa_nil))) (pe_one (pe_cmpR op_eq (pe_callB (k_len K) (by rfl) T.z_len (by decide +kernel) (pa_cons (pv 2) pa_nil)) pe_int (nomark _)))))
  (C8.pss_cut (ps_if (pt_val (pv 4)) (pss_one (ps_for PassesOwn.never rfl (k_piZip K (by rfl) T.z_zip (pa_cons (pv 2) (pa_cons (pe_tup (pa_cons (pv 0) (pa_cons (pv 1) pa_nil))) pa_nil))) (k_pgT (n := 2) K rfl (pgs_cons (pg_name (i := 5) sc_thing_right.nd rfl (by first | exact Or.inl rfl | exact Or.inr rfl)) (pgs_cons (pg_name (i := 6) sc_thing_right.nd rfl (by first | exact Or.inl rfl | exact Or.inr rfl)) pgs_nil))) (pss_one (ps_set (i := 4) sc_thing_right.nd rfl (by first | exact Or.inl rfl | exact Or.inr rfl) (pe_and (pv 4) (pe_and (pe_callB (k_isi K) (by rfl) T.z_isinstance (by decide +kernel) (pa_cons (pv 5) (pa_cons (pe_bltn (v := .ty "int") (by rfl) T.z_int (by decide +kernel) rfl) pa_nil))) (pe_and (pe_not (pe_callB (k_isi K) (by rfl) T.z_isinstance (by decide +kernel) (pa_cons (pv 5) (pa_cons (pe_bltn (v := .ty "bool") (by rfl) T.z_bool (by decide +kernel) rfl) pa_nil)))) (pe_one (pe_chain op_le op_lt pe_int (pv 5) (pe_callB (k_len K) (by rfl) T.z_len (by decide +kernel) (pa_cons (pv 6) pa_nil))))))))))) pss_nil)
  (C8.pss_cut (ps_set (i := 4) sc_thing_right.nd rfl (by first | exact Or.inl rfl | exact Or.inr rfl) (pe_and (pv 4) (pe_one (pe_call G_law_is_pair hr_law_is_pair (by rfl) T.g_law_is_pair T.F_law_is_pair.kp T.b_law_is_pair .nil pass0 (pa_cons (pv 0) (pa_cons (pv 1) (pa_cons (pe_ix (kx_tup K) (pv 2) pe_int (fun _ _ => rfl)) (pa_cons (pe_ix (kx_tup K) (pv 2) pe_int (fun _ _ => rfl)) pa_nil))))))))
  (pss_cons (ps_set (i := 7) sc_thing_right.nd rfl (by first | exact Or.inl rfl | exact Or.inr rfl) (pe_call G_is_pair hr_is_pair (by rfl) T.g_is_pair T.F_is_pair.kp T.b_is_pair .nil pass0 (pa_cons (pv 0) (pa_cons (pv 1) (pa_cons (pv 2) pa_nil)))))
  (pss_cons (ps_if (PW.pt (pw_or (pt_not (pt_val (pe_callB (k_isi K) (by rfl) T.z_isinstance (by decide +kernel) (pa_cons (pv 7) (pa_cons (pe_bltn (v := .ty "bool") (by rfl) T.z_bool (by decide +kernel) rfl) pa_nil))))) (pw_or (pt_cmpR op_ne (pv 7) (pv 4) (nomark _)) (pw_or1 (pt_cmpR op_ne (pe_callK0 G_is_pair hr_is_pair (by rfl) T.g_is_pair T.F_is_pair.kp T.kb0_is_pair pass0 (pk_cons (pv 1) (pk_cons (pv 2) (pk_cons (pv 0) pk_nil)))) (pv 4) (nomark _)))))) (pss_one (ps_ret pe_bl)) pss_nil)
  (C8.pss_cut (ps_if (pt_val (pv 4)) (pss_one (ps_ret (pe_call G_span_right hr_span_right (by rfl) T.g_span_right T.F_span_right.kp T.b_span_right .nil pass0 (pa_cons (pv 0) (pa_cons (pv 1) (pa_cons (pe_ix (kx_tup K) (pv 2) pe_int (fun _ _ => rfl)) (pa_cons (pe_ix (kx_tup K) (pv 2) pe_int (fun _ _ => rfl)) (pa_cons (pv 3) pa_nil)))))))) pss_nil)
  (pss_one (ps_ret (pe_call G_refused hr_refused (by rfl) T.g_refused T.F_refused.kp T.b_refused .nil pass0 (pa_cons (pv 0) (pa_cons (pv 1) (pa_cons (pv 2) (pa_cons (pv 3) pa_nil))))))))))))), ?_⟩
    -- what is due: a tuple of two
    refine ⟨fun σ' H' => σ' = [some (.ref ta), some (.ref tb), some v, some (.int lag), some (.bl o.isSome), none, none, none] ∧ H' = H, ?_, ?_⟩
    · cases hth with
      | other ty kit =>
        refine ⟨_, rfl, _, _, _, _, false, rfl, ClsV.ty "tuple", ty, kit, _, rfl, ?_⟩
        exact iteF ⟨rfl, rfl⟩
      | @few t xs hP n2 =>
        refine ⟨_, rfl, _, _, _, _, true, rfl, ClsV.ty "tuple", seqT_ty hP, kit_ty (by decide +kernel), _, rfl, ?_⟩
        refine iteT ?_
        refine ⟨_, rfl, t, _, rfl, .inr hP, rfl, ?_⟩
        show _ = _ ∧ _
        refine ⟨?_, rfl⟩
        show [some (V.ref ta), some (.ref tb), some (.ref t), some (.int lag), some (.bl (decide (V.int (xs.length : Int) = V.int 2))), none, none, none] = _
        rw [decide_eq_false (fun z => by injection z with z; omega)]
        rfl
      | @two t y z hP hy hz =>
        refine ⟨_, rfl, _, _, _, _, true, rfl, ClsV.ty "tuple", seqT_ty hP, kit_ty (by decide +kernel), _, rfl, ?_⟩
        refine iteT ?_
        exact ⟨_, rfl, t, _, rfl, .inr hP, rfl, rfl, rfl⟩
    rintro σ0 H0 ⟨rfl, rfl⟩
    -- numbers of the logs
    refine ⟨fun σ' H' => ∃ x5 x6 : Option V, σ' = [some (.ref ta), some (.ref tb), some v, some (.int lag), some (.bl (inBoth A B o)), x5, x6, none] ∧ Same H0 H', ?_, ?_⟩
    · refine ⟨_, rfl, _, rfl, ?_⟩
      cases hth with
      | other ty kit => exact iteF ⟨_, _, rfl, Same.refl _⟩
      | few hP n2 => exact iteF ⟨_, _, rfl, Same.refl _⟩
      | @two t y z hP hy hz =>
        refine iteT ?_
        refine ⟨_, rfl, _, rfl, _, rfl, (by show 2 ≤ sizeLine; decide), fun u hu => ?_⟩
        generalize hX : upd H0 u _ = H1
        obtain ⟨S1, f1⟩ := alloc hu hX
        clear hX
        refine ⟨t, u, _, _, rfl, .inr ⟨same_seqT S1 hP, SqT.of f1, ?_⟩⟩
        refine for_it (walk_zipT (n := 2) rfl) (fun j σ H' => ∃ x5 x6 : Option V, σ = [some (.ref ta), some (.ref tb), some (.ref t), some (.int lag), some (.bl ((decide (j ≤ 0) || inLog A.length y) && (decide (j ≤ 1) || inLog B.length z))), x5, x6, none] ∧ Same H1 H')
          ⟨none, none, rfl, Same.refl _⟩ (fun j σ H' _ ⟨_, _, _, p⟩ => ⟨same_seqT (S1.trans p) hP, SqT.of (p _ _ f1)⟩) ?_ ?_
        · rintro j x σ _ H2 hj ⟨x5, x6, rfl, S2⟩ ⟨tt, y1, y2, rfl, htt, rfl, hy1, hy2⟩
          generalize hX : upd _ tt _ = H3
          obtain ⟨S3, f3⟩ := alloc htt hX
          clear hX
          have S03 := S1.trans (S2.trans S3)
          obtain ⟨tl, rs, rfl, hL, hy, nxt⟩ : ∃ (tl : Addr) (rs : List Row), y2 = .ref tl ∧ LogAt K H3 tl rs ∧ Any K H3 y1 ∧ (((decide (j ≤ 0) || inLog A.length y) && (decide (j ≤ 1) || inLog B.length z)) && inLog rs.length y1) = ((decide (j + 1 ≤ 0) || inLog A.length y) && (decide (j + 1 ≤ 1) || inLog B.length z)) := by
            rcases j with _ | _ | j
            · obtain rfl : y = y1 := Option.some.inj hy1
              obtain rfl : V.ref ta = y2 := Option.some.inj hy2
              exact ⟨ta, A, rfl, hA.same S03, hy.same S03, by cases inLog A.length y <;> cases inLog B.length z <;> rfl⟩
            · obtain rfl : z = y1 := Option.some.inj hy1
              obtain rfl : V.ref tb = y2 := Option.some.inj hy2
              exact ⟨tb, B, rfl, hB.same S03, hz.same S03, by cases inLog A.length y <;> cases inLog B.length z <;> rfl⟩
            · exact absurd hj (by show ¬ (j + 1 + 1 < 2); omega)
          refine ⟨tt, _, rfl, SqT.of f3, rfl, _, _, rfl, _, _, rfl, rfl, ?_⟩
          have S13 := S2.trans S3
          obtain ⟨as, hT, hR⟩ := id hL
          have la := hR.length
          generalize ((decide (j ≤ 0) || inLog A.length y) && (decide (j ≤ 1) || inLog B.length z)) = d0 at nxt ⊢
          rw [← nxt]
          cases d0 with
          | false => exact ⟨_, rfl, _, rfl, iteF ⟨_, _, rfl, S13⟩⟩
          | true =>
            refine ⟨_, rfl, _, rfl, iteT ?_⟩
            rw [Bool.true_and]
            obtain ⟨ty, t1, t2, t3, _⟩ := hy.ty
            refine ⟨_, rfl, _, _, _, _, _, rfl, ClsV.ty "int", t1, t2, _, rfl, ?_⟩
            cases hy with
            | int i =>
              refine iteT ?_
              refine ⟨_, rfl, _, _, _, _, false, rfl, ClsV.ty "bool", t1, t3, _, rfl, _, rfl, ?_⟩
              refine iteT ?_
              refine ⟨_, rfl, _, _, rfl, rfl, _, rfl, ?_⟩
              show if decide ((0 : Int) ≤ i) = true then _ else _
              have e0 : inLog rs.length (.int i) = (decide ((0 : Int) ≤ i) && decide (i < (rs.length : Int))) := rfl
              rw [e0]
              cases z0 : decide ((0 : Int) ≤ i) with
              | false => exact iteF ⟨_, _, rfl, S13⟩
              | true =>
                refine iteT ?_
                refine ⟨_, rfl, tl, _, rfl, .inr hT, _, _, rfl, rfl, some (.int i), some (.ref tl), ?_, S13⟩
                show [some (V.ref ta), some (.ref tb), some (.ref t), some (.int lag), some (.bl (decide (i < ((as.map V.ref).length : Int)))), some (.int i), some (.ref tl), none] = _
                rw [List.length_map, la, Bool.true_and]
            | bl b =>
              refine iteT ?_
              refine ⟨_, rfl, _, _, _, _, true, rfl, ClsV.ty "bool", t1, t3, _, rfl, _, rfl, ?_⟩
              exact iteF ⟨_, _, rfl, S13⟩
            | _ => exact iteF ⟨_, _, rfl, S13⟩
        · rintro σ H2 ⟨x5, x6, rfl, S2⟩
          exact ⟨x5, x6, rfl, S1.trans S2⟩
    rintro σ1 H1 ⟨x5, x6, rfl, S1⟩
    refine ⟨fun σ' H' => σ' = [some (.ref ta), some (.ref tb), some v, some (.int lag), some (.bl (thP A B o)), x5, x6, none] ∧ Same H0 H', ?_, ?_⟩
    · refine ⟨_, rfl, _, rfl, ?_⟩
      cases e : inBoth A B o with
      | false =>
        have : thP A B o = false := by
          cases z : thP A B o with
          | false => rfl
          | true =>
            obtain ⟨b, r, x, y, rfl, hx, hy, lk⟩ := thP_of z
            have bl := (List.getElem?_eq_some_iff.mp hx).1
            have rl := (List.getElem?_eq_some_iff.mp hy).1
            have e : ((decide ((0 : Int) ≤ (b : Int)) && decide ((b : Int) < (A.length : Int))) && (decide ((0 : Int) ≤ (r : Int)) && decide ((r : Int) < (B.length : Int)))) = false := e
            rw [decide_eq_true (show (0 : Int) ≤ (b : Int) by omega), decide_eq_true (show (b : Int) < (A.length : Int) by omega), decide_eq_true (show (0 : Int) ≤ (r : Int) by omega), decide_eq_true (show (r : Int) < (B.length : Int) by omega)] at e
            cases e
        rw [this]
        exact iteF ⟨rfl, S1⟩
      | true =>
        refine iteT ?_
        cases hth with
        | other _ _ => cases e
        | few _ _ => cases e
        | @two t y z hP hy hz =>
          have e : (inLog A.length y && inLog B.length z) = true := e
          rw [Bool.and_eq_true] at e
          obtain ⟨z1, z2⟩ := e
          obtain ⟨i, rfl⟩ : ∃ i, y = .int i := by
            cases y <;> first | exact ⟨_, rfl⟩ | cases z1
          obtain ⟨j, rfl⟩ : ∃ i, z = .int i := by
            cases z <;> first | exact ⟨_, rfl⟩ | cases z2
          unfold inLog at z1 z2
          rw [Bool.and_eq_true, decide_eq_true_eq, decide_eq_true_eq] at z1 z2
          obtain ⟨b, rfl⟩ := Int.eq_ofNat_of_zero_le z1.1
          obtain ⟨r, rfl⟩ := Int.eq_ofNat_of_zero_le z2.1
          have hx : A[b]? = some A[b] := List.getElem?_eq_getElem (by omega)
          have hy : B[r]? = some B[r] := List.getElem?_eq_getElem (by omega)
          have hP1 := same_seqT S1 hP
          rw [thP_pr hx hy]
          exact ⟨_, rfl, _, rfl, _, rfl, t, _, 0, _, rfl, rfl, hP1, rfl, _, rfl, t, _, 1, _, rfl, rfl, hP1, rfl, ta, tb, A, B, b, r, _, _, rfl, hA.same S1, hB.same S1, hx, hy, rfl, S1⟩
    rintro σ2 H2 ⟨rfl, S2⟩
    refine ⟨_, rfl, _, rfl, _, rfl, ta, tb, v, A, B, o, rfl, hA.same S2, hB.same S2, oA, oB, hth.same S2, fun H3 S3 => ?_⟩
    have S03 := S2.trans S3
    have say : ∀ b : Bool, (!decide (V.bl b = V.bl b)) = false := fun b => by rw [decide_eq_true rfl]; rfl
    refine ⟨_, rfl, _, _, _, _, true, rfl, ClsV.ty "bool", .base (.bl _), kit_ty (by show kitB "bool" "bool" = some true; decide +kernel), _, rfl, ?_⟩
    show if (!true) = true then _ else _
    refine iteF ?_
    refine ⟨_, rfl, _, rfl, rfl, _, rfl, ?_⟩
    show if (!decide (V.bl (thP A B o) = V.bl (thP A B o))) = true then _ else _
    rw [say]
    refine iteF ?_
    refine ⟨_, rfl, _, rfl, _, rfl, ta, tb, v, A, B, o, rfl, hA.same S03, hB.same S03, oA, oB, hth.same S03, fun H4 S4 => ?_⟩
    have S04 := S03.trans S4
    refine ⟨_, rfl, rfl, _, rfl, ?_⟩
    show if (!decide (V.bl (thP A B o) = V.bl (thP A B o))) = true then _ else _
    rw [say]
    refine iteF ?_
    refine ⟨fun σ' H' => σ' = [some (.ref ta), some (.ref tb), some v, some (.int lag), some (.bl (thP A B o)), x5, x6, some (.bl (thP A B o))] ∧ H' = H4 ∧ thP A B o = false, ?_, ?_⟩
    · refine ⟨_, rfl, _, rfl, ?_⟩
      cases e : thP A B o with
      | false => exact iteF ⟨rfl, rfl, rfl⟩
      | true =>
        refine iteT ?_
        obtain ⟨b, r, x, y, rfl, hx, hy, lk⟩ := thP_of e
        have hth4 := hth.same S04
        cases hth4 with
        | two hP _ _ =>
          exact ⟨_, rfl, _, rfl, _, rfl, _, _, 0, _, rfl, rfl, hP, rfl, _, rfl, _, _, 1, _, rfl, rfl, hP, rfl, _, rfl, ta, tb, A, B, b, r, x, y, lag, rfl, hA.same S04, hB.same S04, oA, oB, hx, hy, lk, l0, l1, fun H5 S5 => k H5 (S04.trans S5)⟩
    rintro σ3 H5 ⟨rfl, rfl, bad⟩
    exact ⟨_, rfl, _, rfl, _, rfl, _, rfl, ta, tb, v, A, B, o, lag, rfl, hA.same S04, hB.same S04, oA, oB, hth.same S04, bad, fun H6 S6 => k H6 (S04.trans S6)⟩
/-! ### the law -/
theorem cut_all (xs : List V) (i : Nat) (h : xs.length ≤ i) : cutV xs none (some (i : Int)) = xs := by
  unfold cutV
  rw [HT.sIx_nat]
  show (xs.drop 0).take _ = xs
  rw [List.drop_zero, List.take_of_length_le]
  show xs.length ≤ min i xs.length - 0
  omega
def spLaw (K : PySem.W.Frag) (cs : List Addr) : Sp := fun vs H Q _ => ∃ (a : Addr) (ns : List Int), vs = [.ref a] ∧ SqL K H a (ns.map V.int) ∧ ns.length ≤ 63 ∧ (∀ c ∈ cs, H (tabOf K c) = some (.tbl #[])) ∧ ∀ H', Q (.bl true) H'
theorem law_in (K : PySem.W.Frag) (cs : List Addr) (H : Hp) (a : Addr) (ns : List Int) (h1 : ns.length ≤ 63) (_ : ∀ k ∈ ns, Builtin.Int.intBits k ≤ 1048576) (h3 : ∀ c ∈ cs, H (tabOf K c) = some (.tbl #[])) (h2 : SqL K H a (ns.map V.int)) : spLaw K cs [.ref a] H (fun v _ => v = .bl true) fun _ _ _ => False :=
  ⟨a, ns, rfl, h2, h1, h3, fun _ => rfl⟩
theorem ok_law (T : Txt w K mg) (TB : ∀ c ∈ [T.cc_two], TabB base mg c (tabOf K c)) : GOk P w K mg base CX0 7 T.a_law T.d_law ["_law_script"] (spLaw K [T.cc_two]) := by
  have TB_two := TB T.cc_two (List.mem_cons_self ..)
  have G_draw := ok_draw (P := P) (base := base) T
  have G_two := ok_two (P := P) T TB_two
  have G_is_pair := ok_is_pair (P := P) (base := base) T
  have G_law_is_pair := ok_law_is_pair (P := P) (base := base) T
  have G_span_right := ok_span_right (P := P) (base := base) T
  have G_thing_right := ok_thing_right (P := P) (base := base) T
  have G_odd := ok_odd (P := P) (base := base) T
  refine GOk.body T.F_law sc_law (fun vs H Q E h => ?_) (fun cdv A' outer s H vs Q E hr hG h => ?_)
  · obtain ⟨a, ns, rfl, _⟩ := h
    rfl
  · obtain ⟨a, ns, rfl, hS, hl, htab, k⟩ := h
    have hr_draw := hr.mono (show 1 ≤ 6 by decide)
    have hr_two := hr.mono (show 3 ≤ 6 by decide)
    have hr_is_pair := hr_two
    have hr_law_is_pair := hr_draw
    have hr_span_right := hr.mono (show 5 ≤ 6 by decide)
    have hr_thing_right := hr
    have hr_odd := hr.mono (show 2 ≤ 6 by decide)
    refine ⟨_, (pss_cons (ps_set (i := 1) sc_law.nd rfl (by first | exact Or.inl rfl | exact Or.inr rfl) (pe_lst (pa_cons (pe_callTy (k_listOf K) (by rfl) T.z_list (by decide +kernel) (pa_cons (pe_slice (k_slL K) (pv 0) po_none (po_some pe_int)) pa_nil)) (pa_cons pe_int (pa_cons pe_int pa_nil)))))
  (pss_cons (ps_set (i := 2) sc_law.nd rfl (by first | exact Or.inl rfl | exact Or.inr rfl) (pe_lst (pa_cons (pe_revL (pe_callTy (k_listOf K) (by rfl) T.z_list (by decide +kernel) (pa_cons (pe_slice (k_slL K) (pv 0) po_none (po_some pe_int)) pa_nil))) (pa_cons pe_int (pa_cons pe_int pa_nil)))))
  (pss_cons (ps_set (i := 3) sc_law.nd rfl (by first | exact Or.inl rfl | exact Or.inr rfl) (pe_ix (kx_list K) (pe_lst (pa_cons pe_int (pa_cons pe_int pa_nil))) (pe_callTy call_int1 (by rfl) T.z_int (by decide +kernel) (pa_cons (pe_cmpR op_eq (pe_call G_draw hr_draw (by rfl) T.g_draw T.F_draw.kp T.b_draw .nil pass0 (pa_cons (pv 1) (pa_cons pe_int pa_nil))) pe_int (nomark _)) pa_nil)) (fun _ _ => rfl)))
  (pss_cons (ps_asg (pe_call G_two hr_two (by rfl) T.g_two T.F_two.kp T.b_two .nil pass0 (pa_cons (pv 1) (pa_cons (pv 3) pa_nil))) (k_pgT (n := 4) K rfl (pgs_cons (pg_name (i := 4) sc_law.nd rfl (by first | exact Or.inl rfl | exact Or.inr rfl)) (pgs_cons (pg_name (i := 5) sc_law.nd rfl (by first | exact Or.inl rfl | exact Or.inr rfl)) (pgs_cons (pg_name (i := 6) sc_law.nd rfl (by first | exact Or.inl rfl | exact Or.inr rfl)) (pgs_cons (pg_name (i := 7) sc_law.nd rfl (by first | exact Or.inl rfl | exact Or.inr rfl)) pgs_nil))))))
  (C8.pss_cut (ps_set (i := 8) sc_law.nd rfl (by first | exact Or.inl rfl | exact Or.inr rfl) (pe_callB (k_repr K hG hr.units) (by rfl) T.z_repr (by decide +kernel) (pa_cons (pe_tup (pa_cons (pv 4) (pa_cons (pv 5) pa_nil))) pa_nil)))
  (pss_cons (ps_for PassesOwn.never rfl (pi_range1 (by rfl) T.z_range (pa_cons (pe_callB (k_len K) (by rfl) T.z_len (by decide +kernel) (pa_cons (pv 4) pa_nil)) pa_nil)) (pg_name (i := 9) sc_law.nd rfl (by first | exact Or.inl rfl | exact Or.inr rfl)) (pss_one (ps_for PassesOwn.never rfl (pi_range1 (by rfl) T.z_range (pa_cons (pe_callB (k_len K) (by rfl) T.z_len (by decide +kernel) (pa_cons (pv 5) pa_nil)) pa_nil)) (pg_name (i := 10) sc_law.nd rfl (by first | exact Or.inl rfl | exact Or.inr rfl)) (pss_cons (ps_set (i := 11) sc_law.nd rfl (by first | exact Or.inl rfl | exact Or.inr rfl) (pe_call G_law_is_pair hr_law_is_pair (by rfl) T.g_law_is_pair T.F_law_is_pair.kp T.b_law_is_pair .nil pass0 (pa_cons (pv 4) (pa_cons (pv 5) (pa_cons (pv 9) (pa_cons (pv 10) pa_nil))))))
  (pss_cons (ps_set (i := 12) sc_law.nd rfl (by first | exact Or.inl rfl | exact Or.inr rfl) (pe_call G_is_pair hr_is_pair (by rfl) T.g_is_pair T.F_is_pair.kp T.b_is_pair .nil pass0 (pa_cons (pv 4) (pa_cons (pv 5) (pa_cons (pe_tup (pa_cons (pv 9) (pa_cons (pv 10) pa_nil))) pa_nil)))))
  (pss_cons (ps_if (PW.pt (pw_or (pt_not (pt_val (pe_callB (k_isi K) (by rfl) T.z_isinstance (by decide +kernel) (pa_cons (pv 12) (pa_cons (pe_bltn (v := .ty "bool") (by rfl) T.z_bool (by decide +kernel) rfl) pa_nil))))) (pw_or1 (pt_cmpR op_ne (pv 12) (pv 11) (nomark _))))) (pss_one (ps_ret pe_bl)) pss_nil)
  (pss_one (ps_if (PW.pt (pw_and (pt_val (pv 11)) (pw_and1 (pt_not (pt_val (pe_call G_span_right hr_span_right (by rfl) T.g_span_right T.F_span_right.kp T.b_span_right .nil pass0 (pa_cons (pv 4) (pa_cons (pv 5) (pa_cons (pv 9) (pa_cons (pv 10) (pa_cons (pv 7) pa_nil))))))))))) (pss_one (ps_ret pe_bl)) pss_nil))))))))
  (pss_cons (ps_for PassesOwn.never rfl (pi_range1 (by rfl) T.z_range (pa_cons pe_int pa_nil)) (pg_name (i := 13) sc_law.nd rfl (by first | exact Or.inl rfl | exact Or.inr rfl)) (pss_cons (ps_set (i := 14) sc_law.nd rfl (by first | exact Or.inl rfl | exact Or.inr rfl) (pe_call G_odd hr_odd (by rfl) T.g_odd T.F_odd.kp T.b_odd .nil pass0 (pa_cons (pv 2) (pa_cons (pe_call G_draw hr_draw (by rfl) T.g_draw T.F_draw.kp T.b_draw .nil pass0 (pa_cons (pv 2) (pa_cons (pe_op op_add pe_int (pe_callB (k_len K) (by rfl) T.z_len (by decide +kernel) (pa_cons (pv 4) pa_nil))) pa_nil))) (pa_cons (pe_call G_draw hr_draw (by rfl) T.g_draw T.F_draw.kp T.b_draw .nil pass0 (pa_cons (pv 2) (pa_cons (pe_op op_add pe_int (pe_callB (k_len K) (by rfl) T.z_len (by decide +kernel) (pa_cons (pv 5) pa_nil))) pa_nil))) pa_nil)))))
  (pss_one (ps_if (pt_not (pt_val (pe_call G_thing_right hr_thing_right (by rfl) T.g_thing_right T.F_thing_right.kp T.b_thing_right .nil pass0 (pa_cons (pv 4) (pa_cons (pv 5) (pa_cons (pv 14) (pa_cons (pv 7) pa_nil))))))) (pss_one (ps_ret pe_bl)) pss_nil))))
  (pss_one (ps_ret (pe_cmpR op_eq (pe_callB (k_repr K hG hr.units) (by rfl) T.z_repr (by decide +kernel) (pa_cons (pe_tup (pa_cons (pv 4) (pa_cons (pv 5) pa_nil))) pa_nil)) (pv 8) (nomark _))))))))))), ?_⟩
    have say : ∀ d : Str, (!decide (V.str d = V.str d)) = false := fun d => by rw [decide_eq_true rfl]; rfl
    have sayb : ∀ b : Bool, (!decide (V.bl b = V.bl b)) = false := fun b => by rw [decide_eq_true rfl]; rfl
    have tabs0 : Tabs (tabsT T) H := fun q hq => by
      have hq : q = (tabOf K T.cc_two, lamQ "_law_two") := by simpa [tabsT] using hq
      subst hq
      exact TabS.nil (htab _ (List.mem_cons_self ..))
    refine ⟨_, rfl, _, rfl, a, _, rfl, hS, fun c0 hc0 => ?_⟩
    generalize hX : upd H c0 _ = H1
    obtain ⟨S1, f1⟩ := alloc hc0 hX
    clear hX
    refine ⟨c0, _, rfl, .inl (SqL.of f1), fun c hc => ?_⟩
    generalize hX : upd H1 c _ = H2
    obtain ⟨S2, f2⟩ := alloc hc hX
    clear hX
    refine ⟨(by show 3 ≤ sizeLine; decide), fun p hp0 => ?_⟩
    generalize hX : upd H2 p _ = H3
    obtain ⟨S3, f3⟩ := alloc hp0 hX
    clear hX
    rw [show ((63 : Int)) = ((63 : Nat) : Int) from rfl, cut_all _ _ (by rw [List.length_map]; exact hl)] at f2
    have hp : PenAt H3 p c 0 := ⟨0, 0, f3, Int.le_refl _, Int.le_refl _, Int.le_refl _⟩
    have hc : Cells K H3 p c := ⟨ne_of_none f2 hp0, ns, SqL.of (S3 _ _ f2), hl⟩
    have S03 := S1.trans (S2.trans S3)
    -- the other pen
    refine ⟨_, rfl, _, rfl, a, _, rfl, same_seqL S03 hS, fun c1 hc1 => ?_⟩
    generalize hX : upd H3 c1 _ = H4
    obtain ⟨S4, f4⟩ := alloc hc1 hX
    clear hX
    refine ⟨c1, _, rfl, .inl (SqL.of f4), fun c2 hc2 => ?_⟩
    generalize hX : upd H4 c2 _ = H5
    obtain ⟨S5, f5⟩ := alloc hc2 hX
    clear hX
    rw [show ((63 : Int)) = ((63 : Nat) : Int) from rfl, cut_all _ _ (by rw [List.length_map]; exact hl)] at f5
    refine ⟨c2, _, rfl, SqL.of f5, fun c3 hc3 => ?_⟩
    generalize hX : upd H5 c3 _ = H6
    obtain ⟨S6, f6⟩ := alloc hc3 hX
    clear hX
    rw [← List.map_reverse] at f6
    refine ⟨(by show 3 ≤ sizeLine; decide), fun p2 hp2 => ?_⟩
    generalize hX : upd H6 p2 _ = H7
    obtain ⟨S7, f7⟩ := alloc hp2 hX
    clear hX
    have S37 := S4.trans (S5.trans (S6.trans S7))
    have pen2 : PenAt H7 p2 c3 0 := ⟨0, 0, f7, Int.le_refl _, Int.le_refl _, Int.le_refl _⟩
    have cel2 : Cells K H7 p2 c3 := ⟨ne_of_none f6 hp2, ns.reverse, SqL.of (S7 _ _ f6), by rw [List.length_reverse]; exact hl⟩
    have np2 : p2 ≠ p := Ne.symm (ne_of_none (S6 _ _ (S5 _ _ (S4 _ _ f3))) hp2)
    have np3 : c3 ≠ p := Ne.symm (ne_of_none (S5 _ _ (S4 _ _ f3)) hc3)
    have g7 := (GoN.refl hp hc (((tabs0.ext S1).ext S2).ext S3)).same S37
    -- both logs
    refine ⟨(by show 2 ≤ sizeLine; decide), fun l1 hl1 => ?_⟩
    generalize hX : upd H7 l1 _ = H8
    obtain ⟨S8, f8⟩ := alloc hl1 hX
    clear hX
    have g8 := g7.same S8
    have n1 := Ne.symm (g7.ne_new hl1)
    refine ⟨_, rfl, p, c, _, _, rfl, g8.pen, g8.cel, by omega, by decide, by decide, fun H9 r9 g9 a9 b9 => ?_⟩
    have G9 := g8.go g9
    obtain ⟨m, hm, m0, m1⟩ : ∃ z : Int, atI [V.int 10, V.int 40] (if decide (V.int r9 = V.int 0) = true then 1 else 0) = some (V.int z) ∧ 1 ≤ z ∧ z ≤ 40 := by
      by_cases z : V.int r9 = V.int 0
      · rw [decide_eq_true z]
        exact ⟨40, rfl, by decide, by decide⟩
      · rw [decide_eq_false z]
        exact ⟨10, rfl, by decide, by decide⟩
    refine ⟨rfl, .inr ⟨_, rfl, l1, _, _, _, rfl, rfl, g9.but.seqL n1 (SqL.of f8), hm, ?_⟩⟩
    refine ⟨_, rfl, _, rfl, p, c, _, m, rfl, G9.pen, G9.cel, by omega, m0, m1, G9.tab, fun H10 u ta tb far slow A B g10 hu hA hB lA lB oA oB _ _ e0 e1 s0 s1 => ?_⟩
    have G10 := G9.trans g10
    have but710 : ButN p H7 H10 := (ButN.of_but ((But.of_same S8).trans g9.but)).trans g10.but
    have pen10 : PenAt H10 p2 c3 0 := ⟨0, 0, but710 _ _ np2 f7 (fun _ => nofun), Int.le_refl _, Int.le_refl _, Int.le_refl _⟩
    have cel10 : Cells K H10 p2 c3 := ⟨cel2.1, ns.reverse, SqL.of (but710 _ _ np3 (S7 _ _ f6) (fun _ => nofun)), by rw [List.length_reverse]; exact hl⟩
    refine ⟨u, _, rfl, hu, rfl, _, _, rfl, _, _, rfl, _, _, rfl, _, _, rfl, rfl, ?_⟩
    have rpA := log_rep oA (by omega)
    have rpB := log_rep oB (by omega)
    have rp : RepOk (.tuple [.tuple (A.map Row.d), .tuple (B.map Row.d)]) 3 2298 := by
      refine (RepOk.tuple (k := 2) (n := 1148) fun d hd => ?_).mono (Nat.le_refl _) (by show 2 * 1149 ≤ 2298; decide)
      rcases List.mem_cons.mp hd with z | z
      · rw [z]
        exact rpA
      · rw [List.mem_singleton.mp z]
        exact rpB
    have both : ∀ {H' : Hp} {v : Addr}, SqT K H' v [.ref ta, .ref tb] → LogAt K H' ta A → LogAt K H' tb B → Dp K H' (.ref v) (.tuple [.tuple (A.map Row.d), .tuple (B.map Row.d)]) := fun h1 h2 h3 => .tup h1 (.cons h2.dp (.cons h3.dp .nil))
    refine ⟨fun σ' H' => σ' = [some (.ref a), some (.ref p), some (.ref p2), some (.int m), some (.ref ta), some (.ref tb), some (.int far), some (.int slow), some (.str (PyData.tuple [.tuple (A.map Row.d), .tuple (B.map Row.d)]).shown), none, none, none, none, none, none] ∧ PenAt H' p2 c3 0 ∧ Cells K H' p2 c3 ∧ LogAt K H' ta A ∧ LogAt K H' tb B, ?_, ?_⟩
    · refine ⟨_, rfl, _, rfl, (by show 2 ≤ sizeLine; decide), fun u2 hu2 => ?_⟩
      generalize hX : upd H10 u2 _ = H11
      obtain ⟨S11, f11⟩ := alloc hu2 hX
      clear hX
      have go2 := (Go.refl pen10 cel10).same S11
      exact ⟨_, _, _, _, rfl, both (SqT.of f11) (hA.same S11) (hB.same S11), rp, by decide, by decide, rfl, go2.pen, go2.cel, hA.same S11, hB.same S11⟩
    rintro σ1 H11 ⟨rfl, pen11, cel11, hA, hB⟩
    obtain ⟨as0, hTa, hRa⟩ := id hA
    obtain ⟨bs0, hTb, hRb⟩ := id hB
    have la := hRa.length
    have lb := hRb.length
    have lA2 : ((as0.map V.ref).length : Int) = (A.length : Int) := by rw [List.length_map, la]
    have lB2 : ((bs0.map V.ref).length : Int) = (B.length : Int) := by rw [List.length_map, lb]
    -- all numbers
    refine ⟨_, rfl, ta, _, rfl, .inr hTa, ?_⟩
    rw [lA2]
    refine ⟨_, rfl, by omega, by omega, ?_⟩
    refine for_it walk_range (fun i σ H' => ∃ (x9 x10 x11 x12 : Option V), σ = [some (.ref a), some (.ref p), some (.ref p2), some (.int m), some (.ref ta), some (.ref tb), some (.int far), some (.int slow), some (.str (PyData.tuple [.tuple (A.map Row.d), .tuple (B.map Row.d)]).shown), x9, x10, x11, x12, none, none] ∧ Same H11 H')
      ⟨none, none, none, none, rfl, Same.refl _⟩ (fun _ _ _ _ _ => trivial) ?_ ?_
    · rintro i x σ _ H12 hi ⟨x9, x10, x11, x12, rfl, S12⟩ ⟨rfl, hxm⟩
      obtain rfl : x = V.int (i : Int) := by
        rw [hxm]
        show V.int (0 + (i : Int)) = _
        rw [Int.zero_add]
      have hiA : i < A.length := by omega
      refine ⟨_, rfl, tb, _, rfl, .inr (same_seqT S12 hTb), ?_⟩
      rw [lB2]
      refine ⟨_, rfl, by omega, by omega, ?_⟩
      refine for_it walk_range (fun j σ H' => ∃ (x10 x11 x12 : Option V), σ = [some (.ref a), some (.ref p), some (.ref p2), some (.int m), some (.ref ta), some (.ref tb), some (.int far), some (.int slow), some (.str (PyData.tuple [.tuple (A.map Row.d), .tuple (B.map Row.d)]).shown), some (.int (i : Int)), x10, x11, x12, none, none] ∧ Same H11 H')
        ⟨x10, x11, x12, rfl, S12⟩ (fun _ _ _ _ _ => trivial) ?_ ?_
      · rintro j x σ _ H13 hj ⟨x10, x11, x12, rfl, S13⟩ ⟨rfl, hxm⟩
        obtain rfl : x = V.int (j : Int) := by
          rw [hxm]
          show V.int (0 + (j : Int)) = _
          rw [Int.zero_add]
        have hjB : j < B.length := by omega
        have hx : A[i]? = some A[i] := List.getElem?_eq_getElem hiA
        have hy : B[j]? = some B[j] := List.getElem?_eq_getElem hjB
        refine ⟨_, rfl, _, rfl, _, rfl, _, rfl, ta, tb, A, B, i, j, _, _, rfl, hA.same S13, hB.same S13, hx, hy, ?_⟩
        refine ⟨_, rfl, _, rfl, _, rfl, _, rfl, (by show 2 ≤ sizeLine; decide), fun t ht => ?_⟩
        generalize hX : upd H13 t _ = H14
        obtain ⟨S14, f14⟩ := alloc ht hX
        clear hX
        have T14 := S13.trans S14
        refine ⟨ta, tb, .ref t, A, B, _, rfl, hA.same T14, hB.same T14, oA, oB, .pr (z := (i, j)) (SqT.of f14), fun H15 S15 => ?_⟩
        have T15 := T14.trans S15
        have e15 : thP A B (some (.int (i : Int), .int (j : Int))) = likeP A[i] B[j] := thP_pr hx hy
        rw [show (thP A B (some (V.int ((i : Int), (j : Int)).1, V.int ((i : Int), (j : Int)).2))) = likeP A[i] B[j] from e15]
        refine ⟨_, rfl, _, _, _, _, true, rfl, ClsV.ty "bool", .base (.bl _), kit_ty (by show kitB "bool" "bool" = some true; decide +kernel), _, rfl, ?_⟩
        show if (!true) = true then _ else _
        refine iteF ?_
        refine ⟨_, rfl, _, rfl, rfl, _, rfl, ?_⟩
        show if (!decide (V.bl (likeP A[i] B[j]) = V.bl (likeP A[i] B[j]))) = true then _ else _
        rw [sayb]
        refine iteF ?_
        refine ⟨_, rfl, _, rfl, ?_⟩
        refine ite2 (fun z => ?_) (fun z => ?_)
        · refine ⟨_, rfl, _, rfl, _, rfl, _, rfl, _, rfl, ta, tb, A, B, i, j, _, _, slow, rfl, hA.same T15, hB.same T15, oA, oB, hx, hy, z, s0, s1, fun H16 S16 => ?_⟩
          refine ⟨_, rfl, ?_⟩
          show if (!true) = true then _ else _
          exact iteF ⟨_, _, _, rfl, T15.trans S16⟩
        · exact iteF ⟨_, _, _, rfl, T15⟩
      · rintro σ H13 ⟨x10, x11, x12, rfl, S13⟩
        exact ⟨_, _, _, _, rfl, S13⟩
    · rintro σ H12 ⟨x9, x10, x11, x12, rfl, S12⟩
      have hA12 := hA.same S12
      have hB12 := hB.same S12
      have go12 := (Go.refl pen11 cel11).same S12
      refine ⟨_, rfl, by decide, by decide, ?_⟩
      refine for_it walk_range (fun i σ H' => ∃ (x13 x14 : Option V), σ = [some (.ref a), some (.ref p), some (.ref p2), some (.int m), some (.ref ta), some (.ref tb), some (.int far), some (.int slow), some (.str (PyData.tuple [.tuple (A.map Row.d), .tuple (B.map Row.d)]).shown), x9, x10, x11, x12, x13, x14] ∧ Go K p2 c3 H12 (3 * i) H')
        ⟨none, none, rfl, Go.refl go12.pen go12.cel⟩ (fun _ _ _ _ _ => trivial) ?_ ?_
      · rintro i x σ _ H13 hi ⟨x13, x14, rfl, G13⟩ ⟨rfl, hxm⟩
        have hi : i < 8 := hi
        obtain rfl : x = V.int (i : Int) := by
          rw [hxm]
          show V.int (0 + (i : Int)) = _
          rw [Int.zero_add]
        have hA13 := hA12.go go12.pen G13.but
        have hB13 := hB12.go go12.pen G13.but
        obtain ⟨as1, hTa1, hRa1⟩ := id hA13
        obtain ⟨bs1, hTb1, hRb1⟩ := id hB13
        have la1 := hRa1.length
        have lb1 := hRb1.length
        have lA3 : ((as1.map V.ref).length : Int) = (A.length : Int) := by rw [List.length_map, la1]
        have lB3 : ((bs1.map V.ref).length : Int) = (B.length : Int) := by rw [List.length_map, lb1]
        refine ⟨_, rfl, _, rfl, _, rfl, ta, _, rfl, .inr hTa1, ?_⟩
        rw [lA3]
        refine ⟨_, _, rfl, rfl, p2, c3, _, _, rfl, G13.pen, G13.cel, by omega, by omega, by omega, fun H14 r14 g14 a14 b14 => ?_⟩
        have G14 := G13.trans g14
        refine ⟨_, rfl, _, rfl, tb, _, rfl, .inr (seqT_go hTb1 G13.pen g14.but), ?_⟩
        rw [lB3]
        refine ⟨_, _, rfl, rfl, p2, c3, _, _, rfl, G14.pen, G14.cel, by omega, by omega, by omega, fun H15 r15 g15 a15 b15 => ?_⟩
        have G15 := G14.trans g15
        obtain ⟨b0, rfl⟩ := Int.eq_ofNat_of_zero_le a14
        obtain ⟨r0, rfl⟩ := Int.eq_ofNat_of_zero_le a15
        refine ⟨p2, c3, _, b0, r0, rfl, G15.pen, G15.cel, by omega, by omega, by omega, fun H16 v o g16 th => ?_⟩
        have G16 := G15.trans g16
        have hA16 := hA12.go go12.pen G16.but
        have hB16 := hB12.go go12.pen G16.but
        refine ⟨_, rfl, _, rfl, _, rfl, _, rfl, ta, tb, v, A, B, o, slow, rfl, hA16, hB16, oA, oB, th, s0, s1, fun H17 S17 => ?_⟩
        refine ⟨_, rfl, ?_⟩
        show if (!true) = true then _ else _
        exact iteF ⟨_, _, rfl, (G16.same S17).mono (by omega)⟩
      · rintro σ H13 ⟨x13, x14, rfl, G13⟩
        have hA13 := hA12.go go12.pen G13.but
        have hB13 := hB12.go go12.pen G13.but
        refine ⟨_, rfl, _, rfl, (by show 2 ≤ sizeLine; decide), fun u3 hu3 => ?_⟩
        generalize hX : upd H13 u3 _ = H14
        obtain ⟨S14, f14⟩ := alloc hu3 hX
        clear hX
        refine ⟨_, _, _, _, rfl, both (SqT.of f14) (hA13.same S14) (hB13.same S14), rp, by decide, by decide, _, rfl, rfl, ?_⟩
        show Q (.bl (decide (V.str _ = V.str _))) _
        rw [decide_eq_true rfl]
        exact k _
end
theorem all_mk {l : PySem.W.OpenLaw} {w : World} {K : PySem.W.Frag} {h : Heap} {mg : Str → Option Value} {fa : Addr} (X : K.In h) (G : h.Ns mainGlobals mg) (hfa : mg "law" = some (.ref fa))
    {f0 : Addr} {od0 an0 : Option Addr} {sl0 : Array (Option Value)} {oc0 kV0 dc0 pm0 cd0 ct0 : Value} (a0 : PySem.W.nsIn K mainGlobals "is_whole" = some (some (.ref f0))) (l0 : K.lookup f0 = some ⟨oc0, od0, .func (PySem.W.fnOf "is_whole" "is_whole" (defArgs s_is_whole) (defBody s_is_whole) (defScope s_is_whole) .none kV0 dc0 pm0 an0 cd0 ct0), sl0⟩) (c0 : PySem.W.codeIn K cd0 "is_whole" = true) (k0 : PySem.W.keepIn K (.ref f0) = true)
    {f1 : Addr} {od1 an1 : Option Addr} {sl1 : Array (Option Value)} {oc1 kV1 dc1 pm1 cd1 ct1 : Value} (a1 : PySem.W.nsIn K mainGlobals "sent_from" = some (some (.ref f1))) (l1 : K.lookup f1 = some ⟨oc1, od1, .func (PySem.W.fnOf "sent_from" "sent_from" (defArgs s_sent_from) (defBody s_sent_from) (defScope s_sent_from) .none kV1 dc1 pm1 an1 cd1 ct1), sl1⟩) (c1 : PySem.W.codeIn K cd1 "sent_from" = true) (k1 : PySem.W.keepIn K (.ref f1) = true)
    {f2 : Addr} {od2 an2 : Option Addr} {sl2 : Array (Option Value)} {oc2 kV2 dc2 pm2 cd2 ct2 : Value} (a2 : PySem.W.nsIn K mainGlobals "is_pair" = some (some (.ref f2))) (l2 : K.lookup f2 = some ⟨oc2, od2, .func (PySem.W.fnOf "is_pair" "is_pair" (defArgs s_is_pair) (defBody s_is_pair) (defScope s_is_pair) .none kV2 dc2 pm2 an2 cd2 ct2), sl2⟩) (c2 : PySem.W.codeIn K cd2 "is_pair" = true) (k2 : PySem.W.keepIn K (.ref f2) = true)
    {f3 : Addr} {od3 an3 : Option Addr} {sl3 : Array (Option Value)} {oc3 kV3 dc3 pm3 cd3 ct3 : Value} (a3 : PySem.W.nsIn K mainGlobals "is_number_in" = some (some (.ref f3))) (l3 : K.lookup f3 = some ⟨oc3, od3, .func (PySem.W.fnOf "is_number_in" "is_number_in" (defArgs s_is_number_in) (defBody s_is_number_in) (defScope s_is_number_in) .none kV3 dc3 pm3 an3 cd3 ct3), sl3⟩) (c3 : PySem.W.codeIn K cd3 "is_number_in" = true) (k3 : PySem.W.keepIn K (.ref f3) = true)
    {f4 T4 : Addr} {tc4 : Value} {td4 : Option Addr} {its4 : Array Value} {tn4 : Nat} {tsl4 : Array (Option Value)} {od4 an4 : Option Addr} {sl4 : Array (Option Value)} {oc4 kV4 dc4 pm4 cd4 ct4 : Value} (a4 : PySem.W.nsIn K mainGlobals "span" = some (some (.ref f4))) (l4 : K.lookup f4 = some ⟨oc4, od4, .func (PySem.W.fnOf "span" "span" (defArgs s_span) (defBody s_span) (defScope s_span) (.ref T4) kV4 dc4 pm4 an4 cd4 ct4), sl4⟩) (c4 : PySem.W.codeIn K cd4 "span" = true) (k4 : PySem.W.keepIn K (.ref f4) = true) (lt4 : K.lookup T4 = some ⟨tc4, td4, .seq its4 tn4, tsl4⟩) (vt4 : Vals [V.int (0)] its4.toList)
    {f5 : Addr} {od5 an5 : Option Addr} {sl5 : Array (Option Value)} {oc5 kV5 dc5 pm5 cd5 ct5 : Value} (a5 : PySem.W.nsIn K mainGlobals "_law_draw" = some (some (.ref f5))) (l5 : K.lookup f5 = some ⟨oc5, od5, .func (PySem.W.fnOf "_law_draw" "_law_draw" (defArgs s_draw) (defBody s_draw) (defScope s_draw) .none kV5 dc5 pm5 an5 cd5 ct5), sl5⟩) (c5 : PySem.W.codeIn K cd5 "_law_draw" = true) (k5 : PySem.W.keepIn K (.ref f5) = true)
    {f6 : Addr} {od6 an6 : Option Addr} {sl6 : Array (Option Value)} {oc6 kV6 dc6 pm6 cd6 ct6 : Value} (a6 : PySem.W.nsIn K mainGlobals "_law_lines" = some (some (.ref f6))) (l6 : K.lookup f6 = some ⟨oc6, od6, .func (PySem.W.fnOf "_law_lines" "_law_lines" (defArgs s_lines) (defBody s_lines) (defScope s_lines) .none kV6 dc6 pm6 an6 cd6 ct6), sl6⟩) (c6 : PySem.W.codeIn K cd6 "_law_lines" = true) (k6 : PySem.W.keepIn K (.ref f6) = true)
    {f7 : Addr} {od7 an7 : Option Addr} {sl7 : Array (Option Value)} {oc7 kV7 dc7 pm7 cd7 ct7 : Value} (a7 : PySem.W.nsIn K mainGlobals "_law_whats" = some (some (.ref f7))) (l7 : K.lookup f7 = some ⟨oc7, od7, .func (PySem.W.fnOf "_law_whats" "_law_whats" (defArgs s_whats) (defBody s_whats) (defScope s_whats) .none kV7 dc7 pm7 an7 cd7 ct7), sl7⟩) (c7 : PySem.W.codeIn K cd7 "_law_whats" = true) (k7 : PySem.W.keepIn K (.ref f7) = true)
    {f8 : Addr} {od8 an8 : Option Addr} {sl8 : Array (Option Value)} {oc8 kV8 dc8 pm8 cd8 ct8 : Value} (a8 : PySem.W.nsIn K mainGlobals "_law_two" = some (some (.ref f8))) (l8 : K.lookup f8 = some ⟨oc8, od8, .func (PySem.W.fnOf "_law_two" "_law_two" (defArgs s_two) (defBody s_two) (defScope s_two) .none kV8 dc8 pm8 an8 cd8 ct8), sl8⟩) (c8 : PySem.W.codeIn K cd8 "_law_two" = true) (k8 : PySem.W.keepIn K (.ref f8) = true)
    {f9 : Addr} {od9 an9 : Option Addr} {sl9 : Array (Option Value)} {oc9 kV9 dc9 pm9 cd9 ct9 : Value} (a9 : PySem.W.nsIn K mainGlobals "_law_is_pair" = some (some (.ref f9))) (l9 : K.lookup f9 = some ⟨oc9, od9, .func (PySem.W.fnOf "_law_is_pair" "_law_is_pair" (defArgs s_law_is_pair) (defBody s_law_is_pair) (defScope s_law_is_pair) .none kV9 dc9 pm9 an9 cd9 ct9), sl9⟩) (c9 : PySem.W.codeIn K cd9 "_law_is_pair" = true) (k9 : PySem.W.keepIn K (.ref f9) = true)
    {f10 : Addr} {od10 an10 : Option Addr} {sl10 : Array (Option Value)} {oc10 kV10 dc10 pm10 cd10 ct10 : Value} (a10 : PySem.W.nsIn K mainGlobals "_law_late" = some (some (.ref f10))) (l10 : K.lookup f10 = some ⟨oc10, od10, .func (PySem.W.fnOf "_law_late" "_law_late" (defArgs s_late) (defBody s_late) (defScope s_late) .none kV10 dc10 pm10 an10 cd10 ct10), sl10⟩) (c10 : PySem.W.codeIn K cd10 "_law_late" = true) (k10 : PySem.W.keepIn K (.ref f10) = true)
    {f11 : Addr} {od11 an11 : Option Addr} {sl11 : Array (Option Value)} {oc11 kV11 dc11 pm11 cd11 ct11 : Value} (a11 : PySem.W.nsIn K mainGlobals "_law_odd" = some (some (.ref f11))) (l11 : K.lookup f11 = some ⟨oc11, od11, .func (PySem.W.fnOf "_law_odd" "_law_odd" (defArgs s_odd) (defBody s_odd) (defScope s_odd) .none kV11 dc11 pm11 an11 cd11 ct11), sl11⟩) (c11 : PySem.W.codeIn K cd11 "_law_odd" = true) (k11 : PySem.W.keepIn K (.ref f11) = true)
    {f12 : Addr} {od12 an12 : Option Addr} {sl12 : Array (Option Value)} {oc12 kV12 dc12 pm12 cd12 ct12 : Value} (a12 : PySem.W.nsIn K mainGlobals "_law_refused" = some (some (.ref f12))) (l12 : K.lookup f12 = some ⟨oc12, od12, .func (PySem.W.fnOf "_law_refused" "_law_refused" (defArgs s_refused) (defBody s_refused) (defScope s_refused) .none kV12 dc12 pm12 an12 cd12 ct12), sl12⟩) (c12 : PySem.W.codeIn K cd12 "_law_refused" = true) (k12 : PySem.W.keepIn K (.ref f12) = true)
    {f13 : Addr} {od13 an13 : Option Addr} {sl13 : Array (Option Value)} {oc13 kV13 dc13 pm13 cd13 ct13 : Value} (a13 : PySem.W.nsIn K mainGlobals "_law_span_right" = some (some (.ref f13))) (l13 : K.lookup f13 = some ⟨oc13, od13, .func (PySem.W.fnOf "_law_span_right" "_law_span_right" (defArgs s_span_right) (defBody s_span_right) (defScope s_span_right) .none kV13 dc13 pm13 an13 cd13 ct13), sl13⟩) (c13 : PySem.W.codeIn K cd13 "_law_span_right" = true) (k13 : PySem.W.keepIn K (.ref f13) = true)
    {f14 : Addr} {od14 an14 : Option Addr} {sl14 : Array (Option Value)} {oc14 kV14 dc14 pm14 cd14 ct14 : Value} (a14 : PySem.W.nsIn K mainGlobals "_law_thing_right" = some (some (.ref f14))) (l14 : K.lookup f14 = some ⟨oc14, od14, .func (PySem.W.fnOf "_law_thing_right" "_law_thing_right" (defArgs s_thing_right) (defBody s_thing_right) (defScope s_thing_right) .none kV14 dc14 pm14 an14 cd14 ct14), sl14⟩) (c14 : PySem.W.codeIn K cd14 "_law_thing_right" = true) (k14 : PySem.W.keepIn K (.ref f14) = true)
    {f15 : Addr} {od15 an15 : Option Addr} {sl15 : Array (Option Value)} {oc15 kV15 dc15 pm15 cd15 ct15 : Value} (a15 : PySem.W.nsIn K mainGlobals "law" = some (some (.ref f15))) (l15 : K.lookup f15 = some ⟨oc15, od15, .func (PySem.W.fnOf "law" "law" (defArgs s_law) (defBody s_law) (defScope s_law) .none kV15 dc15 pm15 an15 cd15 ct15), sl15⟩) (c15 : PySem.W.codeIn K cd15 "law" = true) (k15 : PySem.W.keepIn K (.ref f15) = true)
    (z_ValueError : PySem.W.nsIn K mainGlobals "ValueError" = some none)
    (z_abs : PySem.W.nsIn K mainGlobals "abs" = some none)
    (z_bool : PySem.W.nsIn K mainGlobals "bool" = some none)
    (z_int : PySem.W.nsIn K mainGlobals "int" = some none)
    (z_isinstance : PySem.W.nsIn K mainGlobals "isinstance" = some none)
    (z_len : PySem.W.nsIn K mainGlobals "len" = some none)
    (z_list : PySem.W.nsIn K mainGlobals "list" = some none)
    (z_max : PySem.W.nsIn K mainGlobals "max" = some none)
    (z_min : PySem.W.nsIn K mainGlobals "min" = some none)
    (z_range : PySem.W.nsIn K mainGlobals "range" = some none)
    (z_repr : PySem.W.nsIn K mainGlobals "repr" = some none)
    (z_sorted : PySem.W.nsIn K mainGlobals "sorted" = some none)
    (z_str : PySem.W.nsIn K mainGlobals "str" = some none)
    (z_tuple : PySem.W.nsIn K mainGlobals "tuple" = some none)
    (z_zip : PySem.W.nsIn K mainGlobals "zip" = some none)
    {C_Full : Addr} (m_Full : PySem.W.nsIn K mainGlobals "Full" = some (some (.ref C_Full)))
    {C_Late : Addr} (m_Late : PySem.W.nsIn K mainGlobals "Late" = some (some (.ref C_Late)))
    {C_NoCard : Addr} (m_NoCard : PySem.W.nsIn K mainGlobals "NoCard" = some (some (.ref C_NoCard)))
    {C_NoLine : Addr} (m_NoLine : PySem.W.nsIn K mainGlobals "NoLine" = some (some (.ref C_NoLine)))
    {C_NoLog : Addr} (m_NoLog : PySem.W.nsIn K mainGlobals "NoLog" = some (some (.ref C_NoLog)))
    {C_NoNumber : Addr} (m_NoNumber : PySem.W.nsIn K mainGlobals "NoNumber" = some (some (.ref C_NoNumber)))
    {C_NoPair : Addr} (m_NoPair : PySem.W.nsIn K mainGlobals "NoPair" = some (some (.ref C_NoPair)))
    {C_NoRow : Addr} (m_NoRow : PySem.W.nsIn K mainGlobals "NoRow" = some (some (.ref C_NoRow)))
    {C_NoStretch : Addr} (m_NoStretch : PySem.W.nsIn K mainGlobals "NoStretch" = some (some (.ref C_NoStretch)))
    {C_NoText : Addr} (m_NoText : PySem.W.nsIn K mainGlobals "NoText" = some (some (.ref C_NoText)))
    {C_Nothing : Addr} (m_Nothing : PySem.W.nsIn K mainGlobals "Nothing" = some (some (.ref C_Nothing)))
    {C_RingError : Addr} (m_RingError : PySem.W.nsIn K mainGlobals "RingError" = some (some (.ref C_RingError)))
    {C_Taken : Addr} (m_Taken : PySem.W.nsIn K mainGlobals "Taken" = some (some (.ref C_Taken)))
    {C_Unknown : Addr} (m_Unknown : PySem.W.nsIn K mainGlobals "Unknown" = some (some (.ref C_Unknown)))
    (x_NoPair : PySem.W.excIn K C_NoPair [.type "ValueError", .type "Exception", .type "BaseException", .type "object"] "ValueError.__new__" = true) (k_NoPair : PySem.W.keepIn K (.ref C_NoPair) = true) (b_NoPair : PySem.W.subIn K (.ref C_NoPair) (.type "BaseException") = some true) (t_NoPair : PySem.W.typeIn K (.ref C_NoPair) = some (.type "type"))
    (e0_NoPair : PySem.W.findIn K (.ref C_NoPair) "__getattribute__" = some (some (.builtin "BaseException.__getattribute__"))) (e1_NoPair : PySem.W.findIn K (.ref C_NoPair) "__getattr__" = some none) (e2_NoPair : PySem.W.subIn K (.ref C_NoPair) (.type "BaseException") = some true) (e3_NoPair : PySem.W.hasDictIn K C_NoPair = true) (e4_NoPair : PySem.W.findIn K (.ref C_NoPair) "__class__" = some (some (.builtin "object.__class__"))) (e5_NoPair : PySem.W.specialIn K (.builtin "object.__class__") "__get__" = some (some (.builtin "getset_descriptor.__get__"))) (e6_NoPair : PySem.W.takesIn K (.builtin "object.__class__") = some true) (e7_NoPair : PySem.W.mroIn K C_NoPair (.type "object") = some true)
    (q_catch : PySem.W.exmOne K (.ref C_NoPair) (.ref C_RingError) = some true)
    (q_vals : PySem.W.kitAny K (.ref C_NoPair) [.ref C_NoCard, .ref C_NoLine, .ref C_NoLog, .ref C_NoRow, .ref C_NoStretch, .ref C_NoText, .ref C_Taken] = some false)
    (q_oth : PySem.W.kitAny K (.ref C_NoPair) [.ref C_Full, .ref C_Late, .ref C_NoNumber, .ref C_Nothing, .ref C_Unknown] = some false)
    (q_own : PySem.W.kitOne K (.ref C_NoPair) (.ref C_NoPair) = some true)
    (q_val : PySem.W.kitOne K (.ref C_NoPair) (.type "ValueError") = some true)
    {D_SENDERS : Addr} (m_SENDERS : PySem.W.nsIn K mainGlobals "SENDERS" = some (some (.ref D_SENDERS))) {es_SENDERS : Array DictEntry} {n_SENDERS : Nat} (kl_SENDERS : K.lookup D_SENDERS = some ⟨.type "dict", none, .dict es_SENDERS n_SENDERS, #[]⟩) (kk_SENDERS : PySem.W.KeysLit w.params es_SENDERS.toList) (ks_SENDERS : (D_SENDERS == sysModules) = false) {u0_SENDERS : Tok} (ki0_SENDERS : PySem.W.nsIn K D_SENDERS "port" = some (some (.str "bridge" u0_SENDERS))) {u1_SENDERS : Tok} (ki1_SENDERS : PySem.W.nsIn K D_SENDERS "star" = some (some (.str "bridge" u1_SENDERS))) {u2_SENDERS : Tok} (ki2_SENDERS : PySem.W.nsIn K D_SENDERS "down" = some (some (.str "bridge" u2_SENDERS))) {u3_SENDERS : Tok} (ki3_SENDERS : PySem.W.nsIn K D_SENDERS "aport" = some (some (.str "room" u3_SENDERS))) {u4_SENDERS : Tok} (ki4_SENDERS : PySem.W.nsIn K D_SENDERS "astar" = some (some (.str "room" u4_SENDERS))) {u5_SENDERS : Tok} (ki5_SENDERS : PySem.W.nsIn K D_SENDERS "up" = some (some (.str "room" u5_SENDERS)))
    {cc8 : Addr} (mk8 : cd8 = .ref cc8) (mt8 : h.get? (tabOf K cc8) = some { cls := .none, data := .fields #[] }) (mn8 : K.lookup (tabOf K cc8) = none) (mh8 : PySem.W.codeHdIn K cc8 (tabOf K cc8) = true) :
    ∃ (fd : FuncData) (cs : List Addr), TabsOk K h cs ∧ (∀ (s : Shared) (v : Value), BindsTo s fd ⟨[v], []⟩ [("_law_script", v)]) ∧ ∀ base : Heap, K.In base → base.Ns mainGlobals mg → (∀ c ∈ cs, LamX.TabB base mg c (tabOf K c)) → GOk l.prog w K mg base CX0 7 fa fd ["_law_script"] (spLaw K cs) := by
  have e := hfa.symm.trans (PySem.W.mg_of X G a15)
  cases e
  have F0 := fun_mk (st := s_is_whole) l0 c0 k0
  have F1 := fun_mk (st := s_sent_from) l1 c1 k1
  have F2 := fun_mk (st := s_is_pair) l2 c2 k2
  have F3 := fun_mk (st := s_is_number_in) l3 c3 k3
  have F4 := FunD_mk (x := "span") (params := defArgs s_span) (body := defBody s_span) (scope := defScope s_span) (dvs := [V.int (0)]) l4 c4 k4 lt4 vt4 (by simp)
  obtain ⟨ds4_4, v4_4, b4_4⟩ := F4.binds1 (ps := ["bridge", "room", "pair", "lag"]) 4 1 (by simp) (by simp) (fun T kV doc pm an cdv ct us its hu hi => match us, hu, its, hi with | [_, _, _, _], _, [_], _ => ⟨_, rfl, rfl⟩)
  obtain ⟨ds3_4, v3_4, b3_4⟩ := F4.binds1 (ps := ["bridge", "room", "pair", "lag"]) 3 0 (by simp) (by simp) (fun T kV doc pm an cdv ct us its hu hi => match us, hu, its, hi with | [_, _, _], _, [_], _ => ⟨_, rfl, rfl⟩)
  have F5 := fun_mk (st := s_draw) l5 c5 k5
  have F6 := fun_mk (st := s_lines) l6 c6 k6
  have F7 := fun_mk (st := s_whats) l7 c7 k7
  have F8 := fun_mk (st := s_two) l8 c8 k8
  have F9 := fun_mk (st := s_law_is_pair) l9 c9 k9
  have F10 := fun_mk (st := s_late) l10 c10 k10
  have F11 := fun_mk (st := s_odd) l11 c11 k11
  have F12 := fun_mk (st := s_refused) l12 c12 k12
  have F13 := fun_mk (st := s_span_right) l13 c13 k13
  have F14 := fun_mk (st := s_thing_right) l14 c14 k14
  have F15 := fun_mk (st := s_law) l15 c15 k15
  obtain ⟨it0_4, kb0_4⟩ := FunD_kb F4 (ps := ["bridge", "room", "pair", "lag"]) (by simp) ["lag", "pair", "room", "bridge"] (fun us its ws => match us, its, ws with | [], [_], [x0, x1, x2, x3] => [x3, x2, x1, x0] | _, _, _ => []) (fun us its ws => match us, its, ws with | [], [_], [x0, x1, x2, x3] => [x3, x2, x1, x0] | _, _, _ => [])
    (fun r1 r2 r3 => by (cases r1 with | nil => (cases r2 with | nil => exact .nil | cons e0 r2 => (cases r2 with | nil => (cases r3 with | nil => exact .nil | cons q0 r3 => (cases r3 with | nil => exact .nil | cons q1 r3 => (cases r3 with | nil => exact .nil | cons q2 r3 => (cases r3 with | nil => exact .nil | cons q3 r3 => (cases r3 with | nil => exact .cons q3 (.cons q2 (.cons q1 (.cons q0 (.nil)))) | cons _ _ => exact .nil))))) | cons _ _ => exact .nil)) | cons _ _ => exact .nil)) (fun T kV doc pm an cdv ct us its ws hi hl => match us, its, ws, hl with | [], [_], [_, _, _, _], _ => ⟨_, rfl, rfl⟩)
  let T : Txt w K mg := {
    a_is_whole := f0, d_is_whole := _, F_is_whole := F0, b_is_whole := F0.binds (ps := ["thing"]) (fun _ _ _ _ _ _ us hl => match us, hl with | [_], _ => rfl), g_is_whole := PySem.W.mg_of X G a0,
    a_sent_from := f1, d_sent_from := _, F_sent_from := F1, b_sent_from := F1.binds (ps := ["line"]) (fun _ _ _ _ _ _ us hl => match us, hl with | [_], _ => rfl), g_sent_from := PySem.W.mg_of X G a1,
    a_is_pair := f2, d_is_pair := _, F_is_pair := F2, b_is_pair := F2.binds (ps := ["bridge", "room", "thing"]) (fun _ _ _ _ _ _ us hl => match us, hl with | [_, _, _], _ => rfl), g_is_pair := PySem.W.mg_of X G a2,
    a_is_number_in := f3, d_is_number_in := _, F_is_number_in := F3, b_is_number_in := F3.binds (ps := ["log", "thing"]) (fun _ _ _ _ _ _ us hl => match us, hl with | [_, _], _ => rfl), g_is_number_in := PySem.W.mg_of X G a3,
    a_span := f4, d_span := _, F_span := F4, ds4_span := ds4_4, v4_span := v4_4, b4_span := b4_4, ds3_span := ds3_4, v3_span := v3_4, b3_span := b3_4, g_span := PySem.W.mg_of X G a4,
    a_draw := f5, d_draw := _, F_draw := F5, b_draw := F5.binds (ps := ["_law_pen", "_law_many"]) (fun _ _ _ _ _ _ us hl => match us, hl with | [_, _], _ => rfl), g_draw := PySem.W.mg_of X G a5,
    a_lines := f6, d_lines := _, F_lines := F6, b_lines := F6.binds (ps := ["_law_pen"]) (fun _ _ _ _ _ _ us hl => match us, hl with | [_], _ => rfl), g_lines := PySem.W.mg_of X G a6,
    a_whats := f7, d_whats := _, F_whats := F7, b_whats := F7.binds (ps := ["_law_pen"]) (fun _ _ _ _ _ _ us hl => match us, hl with | [_], _ => rfl), g_whats := PySem.W.mg_of X G a7,
    a_two := f8, d_two := _, F_two := F8, b_two := F8.binds (ps := ["_law_pen", "_law_most"]) (fun _ _ _ _ _ _ us hl => match us, hl with | [_, _], _ => rfl), g_two := PySem.W.mg_of X G a8,
    a_law_is_pair := f9, d_law_is_pair := _, F_law_is_pair := F9, b_law_is_pair := F9.binds (ps := ["_law_deck", "_law_hold", "_law_b", "_law_r"]) (fun _ _ _ _ _ _ us hl => match us, hl with | [_, _, _, _], _ => rfl), g_law_is_pair := PySem.W.mg_of X G a9,
    a_late := f10, d_late := _, F_late := F10, b_late := F10.binds (ps := ["_law_deck", "_law_hold", "_law_b", "_law_r", "_law_far"]) (fun _ _ _ _ _ _ us hl => match us, hl with | [_, _, _, _, _], _ => rfl), g_late := PySem.W.mg_of X G a10,
    a_odd := f11, d_odd := _, F_odd := F11, b_odd := F11.binds (ps := ["_law_pen", "_law_b", "_law_r"]) (fun _ _ _ _ _ _ us hl => match us, hl with | [_, _, _], _ => rfl), g_odd := PySem.W.mg_of X G a11,
    a_refused := f12, d_refused := _, F_refused := F12, b_refused := F12.binds (ps := ["_law_deck", "_law_hold", "_law_given", "_law_slow"]) (fun _ _ _ _ _ _ us hl => match us, hl with | [_, _, _, _], _ => rfl), g_refused := PySem.W.mg_of X G a12,
    a_span_right := f13, d_span_right := _, F_span_right := F13, b_span_right := F13.binds (ps := ["_law_deck", "_law_hold", "_law_b", "_law_r", "_law_slow"]) (fun _ _ _ _ _ _ us hl => match us, hl with | [_, _, _, _, _], _ => rfl), g_span_right := PySem.W.mg_of X G a13,
    a_thing_right := f14, d_thing_right := _, F_thing_right := F14, b_thing_right := F14.binds (ps := ["_law_deck", "_law_hold", "_law_given", "_law_slow"]) (fun _ _ _ _ _ _ us hl => match us, hl with | [_, _, _, _], _ => rfl), g_thing_right := PySem.W.mg_of X G a14,
    a_law := fa, d_law := _, F_law := F15, b_law := F15.binds (ps := ["_law_script"]) (fun _ _ _ _ _ _ us hl => match us, hl with | [_], _ => rfl), g_law := PySem.W.mg_of X G a15,
    cc_two := cc8, cd_two := mk8,
    it0_span := it0_4, kb0_span := kb0_4,
    kb0_is_pair := ⟨fun s us ws _ hl => (match us, ws, hl with | [], [_, _, _], _ => .of_eq rfl), fun r1 r2 => by (cases r1 with | nil => (cases r2 with | nil => exact .nil | cons q0 r2 => (cases r2 with | nil => exact .nil | cons q1 r2 => (cases r2 with | nil => exact .nil | cons q2 r2 => (cases r2 with | nil => exact .cons q2 (.cons q0 (.cons q1 (.nil))) | cons _ _ => exact .nil)))) | cons _ _ => exact .nil)⟩,
    z_ValueError := PySem.W.mg_none_of X G z_ValueError,
    z_abs := PySem.W.mg_none_of X G z_abs,
    z_bool := PySem.W.mg_none_of X G z_bool,
    z_int := PySem.W.mg_none_of X G z_int,
    z_isinstance := PySem.W.mg_none_of X G z_isinstance,
    z_len := PySem.W.mg_none_of X G z_len,
    z_list := PySem.W.mg_none_of X G z_list,
    z_max := PySem.W.mg_none_of X G z_max,
    z_min := PySem.W.mg_none_of X G z_min,
    z_range := PySem.W.mg_none_of X G z_range,
    z_repr := PySem.W.mg_none_of X G z_repr,
    z_sorted := PySem.W.mg_none_of X G z_sorted,
    z_str := PySem.W.mg_none_of X G z_str,
    z_tuple := PySem.W.mg_none_of X G z_tuple,
    z_zip := PySem.W.mg_none_of X G z_zip,
    C_Full := C_Full, c_Full := PySem.W.mg_of X G m_Full,
    C_Late := C_Late, c_Late := PySem.W.mg_of X G m_Late,
    C_NoCard := C_NoCard, c_NoCard := PySem.W.mg_of X G m_NoCard,
    C_NoLine := C_NoLine, c_NoLine := PySem.W.mg_of X G m_NoLine,
    C_NoLog := C_NoLog, c_NoLog := PySem.W.mg_of X G m_NoLog,
    C_NoNumber := C_NoNumber, c_NoNumber := PySem.W.mg_of X G m_NoNumber,
    C_NoPair := C_NoPair, c_NoPair := PySem.W.mg_of X G m_NoPair,
    C_NoRow := C_NoRow, c_NoRow := PySem.W.mg_of X G m_NoRow,
    C_NoStretch := C_NoStretch, c_NoStretch := PySem.W.mg_of X G m_NoStretch,
    C_NoText := C_NoText, c_NoText := PySem.W.mg_of X G m_NoText,
    C_Nothing := C_Nothing, c_Nothing := PySem.W.mg_of X G m_Nothing,
    C_RingError := C_RingError, c_RingError := PySem.W.mg_of X G m_RingError,
    C_Taken := C_Taken, c_Taken := PySem.W.mg_of X G m_Taken,
    C_Unknown := C_Unknown, c_Unknown := PySem.W.mg_of X G m_Unknown,
    x_NoPair := x_NoPair, k_NoPair := k_NoPair, b_NoPair := b_NoPair, t_NoPair := t_NoPair,
    e_NoPair := ⟨e0_NoPair, e1_NoPair, e2_NoPair, e3_NoPair, e4_NoPair, e5_NoPair, e6_NoPair, e7_NoPair⟩,
    q_catch := q_catch,
    q_vals := q_vals,
    q_oth := q_oth,
    q_own := q_own,
    q_val := q_val,
    D_SENDERS := D_SENDERS, c_SENDERS := PySem.W.mg_of X G m_SENDERS, es_SENDERS := es_SENDERS, n_SENDERS := n_SENDERS, kD_SENDERS := ⟨kl_SENDERS, kk_SENDERS, ks_SENDERS⟩, ki_SENDERS := fun p hp => (List.mem_cons.mp hp).elim (fun e => e ▸ ⟨_, ki0_SENDERS, ⟨_, rfl⟩⟩) (fun hp => (List.mem_cons.mp hp).elim (fun e => e ▸ ⟨_, ki1_SENDERS, ⟨_, rfl⟩⟩) (fun hp => (List.mem_cons.mp hp).elim (fun e => e ▸ ⟨_, ki2_SENDERS, ⟨_, rfl⟩⟩) (fun hp => (List.mem_cons.mp hp).elim (fun e => e ▸ ⟨_, ki3_SENDERS, ⟨_, rfl⟩⟩) (fun hp => (List.mem_cons.mp hp).elim (fun e => e ▸ ⟨_, ki4_SENDERS, ⟨_, rfl⟩⟩) (fun hp => (List.mem_cons.mp hp).elim (fun e => e ▸ ⟨_, ki5_SENDERS, ⟨_, rfl⟩⟩) (fun hp => nomatch hp)))))), kd_SENDERS := fun p hp => (List.mem_cons.mp hp).elim (fun e => e ▸ ⟨es_SENDERS, n_SENDERS, _, kl_SENDERS, kk_SENDERS, ki0_SENDERS, ⟨_, rfl⟩⟩) (fun hp => (List.mem_cons.mp hp).elim (fun e => e ▸ ⟨es_SENDERS, n_SENDERS, _, kl_SENDERS, kk_SENDERS, ki1_SENDERS, ⟨_, rfl⟩⟩) (fun hp => (List.mem_cons.mp hp).elim (fun e => e ▸ ⟨es_SENDERS, n_SENDERS, _, kl_SENDERS, kk_SENDERS, ki2_SENDERS, ⟨_, rfl⟩⟩) (fun hp => (List.mem_cons.mp hp).elim (fun e => e ▸ ⟨es_SENDERS, n_SENDERS, _, kl_SENDERS, kk_SENDERS, ki3_SENDERS, ⟨_, rfl⟩⟩) (fun hp => (List.mem_cons.mp hp).elim (fun e => e ▸ ⟨es_SENDERS, n_SENDERS, _, kl_SENDERS, kk_SENDERS, ki4_SENDERS, ⟨_, rfl⟩⟩) (fun hp => (List.mem_cons.mp hp).elim (fun e => e ▸ ⟨es_SENDERS, n_SENDERS, _, kl_SENDERS, kk_SENDERS, ki5_SENDERS, ⟨_, rfl⟩⟩) (fun hp => nomatch hp)))))) }
  exact ⟨PySem.W.fnOf "law" "law" (defArgs s_law) (defBody s_law) (defScope s_law) .none kV15 dc15 pm15 an15 cd15 ct15, [cc8], ⟨fun c hc => (List.mem_cons.mp hc).elim (fun e => e ▸ mt8) (fun hc => nomatch hc), fun c hc => (List.mem_cons.mp hc).elim (fun e => e ▸ mn8) (fun hc => nomatch hc), fun c hc => (List.mem_cons.mp hc).elim (fun e => e ▸ PySem.W.codeHd_of_K X mh8) (fun hc => nomatch hc)⟩, fun s v => .of_eq rfl, fun base _ _ TB => ok_law T TB⟩
end RO
open PySem PySem.W PyProof.Rows in
set_option maxRecDepth 100000 in
set_option maxHeartbeats 0 in
theorem PySem.Challenge.cw_ringorders_k16_pairs_and_spans_holds : PySem.Challenge.rw_ringorders_k16_pairs_and_spans.Holds := by
  w_on; o_law; k_head; (case hw => w_witness2)
  k_fill
  refine RO.walk_GT (l := PySem.Challenge.rw_ringorders_k16_pairs_and_spans) (n := 63) (k := 7) (x := "_law_script") (sp := RO.spLaw) rfl (by decide) rfl ⟨rfl, by decide, by decide⟩ (fun w h Y => PySem.W.km_in_of Y) ?F RO.law_in
  case F =>
    intro w mg fa h YK KX G hmg
    refine' RO.all_mk KX G hmg ?a0 ?l0 ?c0 ?k0 ?a1 ?l1 ?c1 ?k1 ?a2 ?l2 ?c2 ?k2 ?a3 ?l3 ?c3 ?k3 ?a4 ?l4 ?c4 ?k4 ?lt4 ?vt4 ?a5 ?l5 ?c5 ?k5 ?a6 ?l6 ?c6 ?k6 ?a7 ?l7 ?c7 ?k7 ?a8 ?l8 ?c8 ?k8 ?a9 ?l9 ?c9 ?k9 ?a10 ?l10 ?c10 ?k10 ?a11 ?l11 ?c11 ?k11 ?a12 ?l12 ?c12 ?k12 ?a13 ?l13 ?c13 ?k13 ?a14 ?l14 ?c14 ?k14 ?a15 ?l15 ?c15 ?k15 ?z_ValueError ?z_abs ?z_bool ?z_int ?z_isinstance ?z_len ?z_list ?z_max ?z_min ?z_range ?z_repr ?z_sorted ?z_str ?z_tuple ?z_zip ?m_Full ?m_Late ?m_NoCard ?m_NoLine ?m_NoLog ?m_NoNumber ?m_NoPair ?m_NoRow ?m_NoStretch ?m_NoText ?m_Nothing ?m_RingError ?m_Taken ?m_Unknown ?x_NoPair ?k_NoPair ?b_NoPair ?t_NoPair ?e0_NoPair ?e1_NoPair ?e2_NoPair ?e3_NoPair ?e4_NoPair ?e5_NoPair ?e6_NoPair ?e7_NoPair ?q_catch ?q_vals ?q_oth ?q_own ?q_val ?m_SENDERS ?kl_SENDERS ?kk_SENDERS ?ks_SENDERS ?ki0_SENDERS ?ki1_SENDERS ?ki2_SENDERS ?ki3_SENDERS ?ki4_SENDERS ?ki5_SENDERS ?mk8 ?mt8 ?mn8 ?mh8
    (case a0 => k_is)
    (case l0 => k_is)
    (case c0 => k_is)
    (case k0 => k_is)
    (case a1 => k_is)
    (case l1 => k_is)
    (case c1 => k_is)
    (case k1 => k_is)
    (case a2 => k_is)
    (case l2 => k_is)
    (case c2 => k_is)
    (case k2 => k_is)
    (case a3 => k_is)
    (case l3 => k_is)
    (case c3 => k_is)
    (case k3 => k_is)
    (case a4 => k_is)
    (case l4 => k_is)
    (case c4 => k_is)
    (case k4 => k_is)
    (case lt4 => k_is)
    (case vt4 => exact .cons ⟨_, rfl⟩ (.nil))
    (case a5 => k_is)
    (case l5 => k_is)
    (case c5 => k_is)
    (case k5 => k_is)
    (case a6 => k_is)
    (case l6 => k_is)
    (case c6 => k_is)
    (case k6 => k_is)
    (case a7 => k_is)
    (case l7 => k_is)
    (case c7 => k_is)
    (case k7 => k_is)
    (case a8 => k_is)
    (case l8 => k_is)
    (case c8 => k_is)
    (case k8 => k_is)
    (case a9 => k_is)
    (case l9 => k_is)
    (case c9 => k_is)
    (case k9 => k_is)
    (case a10 => k_is)
    (case l10 => k_is)
    (case c10 => k_is)
    (case k10 => k_is)
    (case a11 => k_is)
    (case l11 => k_is)
    (case c11 => k_is)
    (case k11 => k_is)
    (case a12 => k_is)
    (case l12 => k_is)
    (case c12 => k_is)
    (case k12 => k_is)
    (case a13 => k_is)
    (case l13 => k_is)
    (case c13 => k_is)
    (case k13 => k_is)
    (case a14 => k_is)
    (case l14 => k_is)
    (case c14 => k_is)
    (case k14 => k_is)
    (case a15 => k_is)
    (case l15 => k_is)
    (case c15 => k_is)
    (case k15 => k_is)
    (case z_ValueError => k_is)
    (case z_abs => k_is)
    (case z_bool => k_is)
    (case z_int => k_is)
    (case z_isinstance => k_is)
    (case z_len => k_is)
    (case z_list => k_is)
    (case z_max => k_is)
    (case z_min => k_is)
    (case z_range => k_is)
    (case z_repr => k_is)
    (case z_sorted => k_is)
    (case z_str => k_is)
    (case z_tuple => k_is)
    (case z_zip => k_is)
    (case m_Full => k_is)
    (case m_Late => k_is)
    (case m_NoCard => k_is)
    (case m_NoLine => k_is)
    (case m_NoLog => k_is)
    (case m_NoNumber => k_is)
    (case m_NoPair => k_is)
    (case m_NoRow => k_is)
    (case m_NoStretch => k_is)
    (case m_NoText => k_is)
    (case m_Nothing => k_is)
    (case m_RingError => k_is)
    (case m_Taken => k_is)
    (case m_Unknown => k_is)
    (case x_NoPair => k_exc)
    (case k_NoPair => k_is)
    (case b_NoPair => k_is)
    (case t_NoPair => k_is)
    (case e0_NoPair => k_is)
    (case e1_NoPair => k_is)
    (case e2_NoPair => k_is)
    (case e3_NoPair => k_is)
    (case e4_NoPair => k_is)
    (case e5_NoPair => k_is)
    (case e6_NoPair => k_is)
    (case e7_NoPair => k_is)
    (case q_catch => (first | kernel_rfl | decide +kernel))
    (case q_vals => (first | kernel_rfl | decide +kernel))
    (case q_oth => (first | kernel_rfl | decide +kernel))
    (case q_own => (first | kernel_rfl | decide +kernel))
    (case q_val => (first | kernel_rfl | decide +kernel))
    (case m_SENDERS => k_is)
    (case kl_SENDERS => k_is)
    (case kk_SENDERS => k_keys)
    (case ks_SENDERS => (first | rfl | decide +kernel))
    (case ki0_SENDERS => k_is)
    (case ki1_SENDERS => k_is)
    (case ki2_SENDERS => k_is)
    (case ki3_SENDERS => k_is)
    (case ki4_SENDERS => k_is)
    (case ki5_SENDERS => k_is)
    (case mk8 => exact rfl)
    (case mt8 => exact PySem.W.km_tabs_of YK _ (List.mem_of_elem_eq_true (by kernel_rfl)))
    (case mn8 => exact Option.isNone_iff_eq_none.mp (by kernel_rfl))
    (case mh8 => kernel_rfl)
