import PyProof.Rows.All
import Wide.All
import OpenK.AllK
import Wide.FinOn
import HandS.ForMost
import HandS.IsInst
import HandS.Rev
import PyProof.ReprRoads
import PyProof.CallFns
import HandS.EndBits
import HandS.Zip0
import HandS.Walk
import PyProof.Draws
import HandS.More
import HandS.WrittenGet
import HandS.Defaults
import HandS.Wide
import HandS.Conv
import HandS.TupAny
import HandS.Codes
import PyProof.ReprBulk
import HandS.Style
import HandS.NoneIn
import HandS.SortInts
import HandS.RaiseMore
import HandS.Dict
import PyProof.Rows.ReprOcc
import HandS.SetFor
import HandS.SetBool
import HandS.Strs
import HandS.Flow
import HandS.Gcd
import HandS.Zip
import KE.KDictZip
import HandS.TupMul
import KE.DataMinMax
import HandS.SortKw
import HandS.FStr
import KE.KxField
import KE.KDictCopyH
import KE.KDictPairs
import KE.SortUse
import KE.KNestM
import HandS.EndTab
import HandS.SortOrd
import PyProof.NeKinds
import HandS.Deep
import HandS.Exc
import HandS.ExcOwn
import HandS.ExcIs
import HandS.WordsExc
import HandS.TryOnly
import KE.SortData
import HandS.SetKeys
import PySem.Challenge.RW_ringorders_k43_rows_missed
set_option Elab.async false
set_option linter.all false
set_option maxRecDepth 100000
set_option maxHeartbeats 4000000
/-! Ringorders, the ground: promises of defs around which no repr runs, calls by keywords alone, repr of data. -/
namespace RO
open PySem PySem.Spec PyProof.Rows L2

/-- what a def keeps where nothing guards a repr around it -/
structure GOk (P : Program) (w : World) (K : PySem.W.Frag) (mg : Str → Option Value) (base : Heap) (CX : CXT) (k : Nat) (f : Addr) (fd : FuncData) (ps : List Str) (sp : Sp) : Prop where
  many : ∀ vs H Q E, sp vs H Q E → vs.length = ps.length
  runs : ∀ (A : Around) (out : List Env) (s : Shared) (H : Hp) (as : Args) (us : List Value) (vs : List V) (Q : VK) (E : XK),
    Room k A → A.guards = some [] → Env0 P w K mg base A out s H → BindsTo s fd as (ps.zip us) → Vals vs us → sp vs H Q E →
      codeAny (model P w) A (.call (.ref f) as) (CR CX out P w H s Q E) s

section
variable {P : Program} {w : World} {K : PySem.W.Frag} {mg : Str → Option Value} {base : Heap}

theorem GOk.of {CX : CXT} {k : Nat} {f : Addr} {fd : FuncData} {ps : List Str} {sp : Sp} (F : FnOk P w K mg base CX k f fd ps sp) : GOk P w K mg base CX k f fd ps sp :=
  { many := F.len
    runs := fun A out s H as us vs Q E hr _ => F.run A out s H as us vs Q E hr }
theorem GOk.up {CX : CXT} {j k : Nat} {f : Addr} {fd : FuncData} {ps : List Str} {sp : Sp} (F : GOk P w K mg base CX j f fd ps sp) (h : j ≤ k) : GOk P w K mg base CX k f fd ps sp :=
  { many := F.many
    runs := fun A out s H as us vs Q E hr => F.runs A out s H as us vs Q E (Room.mono hr h) }

/-- a def by its body, nothing guarding a repr -/
theorem GOk.body {x qual : Str} {st : Stmt} {f : Addr} {fd : FuncData} {N ps : List Str} {k : Nat} {sp : Sp} (F : Fun K x qual st f fd) (S : FnScope N ps (defScope st))
    (many : ∀ vs H Q E, sp vs H Q E → vs.length = ps.length)
    (hb : ∀ (cdv : Value) (A : Around) (out : List Env) (s : Shared) (H : Hp) (vs : List V) (Q : VK) (E : XK),
      Room k (A.deeper (envOfC qual (defScope st) s.heap.objs.size f cdv)) → A.guards = some [] → sp vs H Q E →
        ∃ t, PSs (cxOf CX0 P w K mg base N qual (defScope st) f cdv A out s H E).nox (defBody st) t ∧ t { nx := fun _ H' => Q .non H', rt := Q } (start N vs) H) :
    GOk P w K mg base CX0 (k + 1) f fd ps sp := by
  obtain ⟨oc, od, kV, doc, pm, an, cdv, ct, osl, e, lk, hcd⟩ := F.ex
  subst e
  constructor
  · exact many
  · intro A out s H as us vs Q E hr hG e0 hbd r hsp
    have h0 := many _ _ _ _ hsp
    have old : ∀ b o, base.get? b = some o → s.heap.get? b = some o := fun b o z => (e0.bs b o z).1
    have hK : K.In s.heap := e0.mod.kin.keeps old
    have hL : s.heap.NoLimit := e0.mod.nolimit.keeps old
    have kinds : ∀ y ∈ ps.zip us, (defScope st).names.lookup y.1 = some .local ∨
        ((defScope st).names.lookup y.1 = some .cell ∧ ((cellsFrom (s.heap.objs.size + 1) (defScope st).names []).lookup y.1).isSome = true) := by
      intro y hy
      cases S.par y.1 (List.of_mem_zip (show (y.1, y.2) ∈ ps.zip us from hy)).1 with
      | inl z => exact Or.inl z
      | inr z => exact Or.inr ⟨z, PySem.W.cellsFrom_some _ _ _ (Or.inl z)⟩
    apply codeAny_call_function hr.depth (hK _ _ lk) rfl S.co S.gen rfl (PySem.W.codeRec_of hK hcd)
    apply hbd
    apply wpAny_newFunctionEnv_cells S.kind kinds
    intro env he s1 x
    subst he
    refine ⟨hL.keeps x.toInCall.keep, codeAny_func ?_⟩
    obtain ⟨t, ht, hq⟩ := hb cdv A out s H vs Q E (hr.deeper _) hG hsp
    have J0 := inv_start (E := E) S hr.hd e0 h0 r x (CX := CX0)
    have done : ∀ {σ' : L2.St} {H' : Hp} {v : V} {u : Value} {s' : Shared}, Inv (cxOf CX0 P w K mg base N qual (defScope st) f cdv A out s H E) [] σ' H' s' → RelV v u → Q v H' → CE out P w H s Q u s' :=
      fun {σ' H' v u s'} J rv q => ⟨v, H', J.os, J.bare, J.base, J.hok, rv, q⟩
    apply wpAny_mono (ht.nox.run [] s1 (start N vs) H _ J0 hq)
    · intro fl s' hs
      match fl, hs with
      | .ret u, ⟨v, σ', H', J, rv, q⟩ => exact done J rv q
      | .next, ⟨σ', H', J, q⟩ => exact done (v := V.non) (u := Value.none) J rfl q
      | .brk, ⟨_, _, _, q⟩ => exact q.elim
      | .cont, ⟨_, _, _, q⟩ => exact q.elim
    · exact fun _ _ hs => hs
end

section
variable {X : Cx} {CX : CXT} {k : Nat} {f C : Addr} {fd : FuncData} {ps ks : List Str} {sp : Sp} {dvs : List V} {ds : List Value} {E : XK} {x m : Str} {p pos : Pos} {e o : Expr} {es : List Expr} {kws : List Keyword} {te ta : TE} {t tk : TA}

theorem GOk.goes {pins : List (Addr × Obj)} {σ : L2.St} {H : Hp} {s : Shared} {Q : VK} {as : Args} {us : List Value} {vs : List V} (F : GOk X.prog X.w X.K X.mg X.base CX k f fd ps sp) (hr : Room k X.A) (hG : X.A.guards = some []) (hx : Passes CX X E)
    (hb : BindsTo s fd as (ps.zip us)) (I : Inv X pins σ H s) (r : Vals vs us) (h : sp vs H Q E) : codeAny (model X.prog X.w) X.A (.call (.ref f) as) (fun r s' => match r with | .ok (.ret u) => EP X pins σ Q u s' | .ok _ => False | .error e => X.xe e s') s := by
  apply codeAny_mono (F.runs X.A X.stack s H as us vs Q E hr hG I.env0 hb r h)
  intro r s' hq
  match r, hq with
  | .error e, hq => exact hx pins σ H s e s' I hq
  | .ok (.ret u), hq => exact I.after hq
  | .ok .next, hq => exact hq.elim
  | .ok .brk, hq => exact hq.elim
  | .ok .cont, hq => exact hq.elim

/-- f(e, ..) where f keeps its promise if no repr is guarded -/
theorem pe_callG (F : GOk X.prog X.w X.K X.mg X.base CX k f fd ps sp) (hr : Room k X.A) (hG : X.A.guards = some []) (hg : Gl X x) (hm : X.mg x = some (.ref f)) (hk : PySem.W.keepIn X.K (.ref f) = true) (hb : Binds X.K fd ps ds) (hd : Vals dvs ds) (hx : Passes CX X E)
    (ha : PA X (e :: es) t) (hdb : (x == ("__debug__" : Str)) = false := by decide) (he : starEach (e :: es) X.env = (false, eval e X.env) :: starEach es X.env := by rfl)
    (hpl : (backTo pos (starEach es X.env)).any (·.1) = false := by rfl) : PE X (.Call (.Name x p) (e :: es) [] pos) (tCall sp dvs E t) := by
  constructor
  intro pins s σ H Q I h
  apply wpAny_Call_Name_kw
  apply ld_glob I hg hm _ hdb
  apply PySem.W.callWith_K (h₀ := X.base) I.ok.mod.kin hk _ he hpl
  apply thn (ha.run pos pins s σ H _ I h)
  rintro us s1 ⟨vs, H1, I1, r, q⟩
  refine ⟨I1.kIn, ?_⟩
  have r2 : Vals (vs ++ dvs) (us ++ ds) := r.append hd
  have hl : (us ++ ds).length = ps.length := r2.length.symm.trans (F.many _ _ _ _ q)
  show wpAny _ _ (call (.ref f) us) _ _ s1
  exact wpAny_call (codeAny_mono (F.goes hr hG hx (hb s1 us I1.kIn hl) I1 r2 q) fun r s' hq => by
    match r, hq with
    | .error e, hq => exact hq
    | .ok (.ret u), hq => exact hq)

/-- f(k = v, ..), nothing by place -/
theorem pe_callK0 {g : List Value → List Value → List Value} {gV : List V → List V → List V} (F : FnOk X.prog X.w X.K X.mg X.base CX k f fd ps sp) (hr : Room k X.A) (hg : Gl X x) (hm : X.mg x = some (.ref f)) (hk : PySem.W.keepIn X.K (.ref f) = true)
    (hb : KBinds X.K fd ps ks g gV) (hx : Passes CX X E) (hkw : PK X kws tk) (hall : (backToKw pos (keywordEach kws X.env)).all (·.1.isSome) = true := by rfl) (hks : (backToKw pos (keywordEach kws X.env)).filterMap (·.1) = ks := by rfl)
    (hdb : (x == ("__debug__" : Str)) = false := by decide)
    (hpl : ((backTo pos (starEach [] X.env)).any (·.1) || (backToKw pos (keywordEach kws X.env)).any (·.1.isNone)) = false := by rfl) :
    PE X (.Call (.Name x p) [] kws pos) (tCallK sp gV E tNil tk) := by
  constructor
  intro pins s σ H Q I h
  apply wpAny_Call_Name_kw
  apply ld_glob I hg hm _ hdb
  apply PySem.W.callWith_KW0 (h₀ := X.base) I.ok.mod.kin hk hall _ hpl
  apply thn (hkw.run pos pins s σ H _ I h)
  rintro ws s1 ⟨zs, H1, I1, rz, q⟩
  refine ⟨I1.kIn, ?_⟩
  rw [hks]
  exact run_fnk (us := []) F hr hb hx I1 .nil rz q

/-! ### repr -/
/-- repr of data -/
def rRepr (K : PySem.W.Frag) : List V → Hp → VK → Prop := fun xs H Q => ∃ v d, xs = [v] ∧ Dp K H v d ∧ PyData.showable d = true ∧ d.hasDict = false ∧ d.depth ≤ 40 ∧ d.shown.length ≤ sizeLine ∧ Q (.str d.shown) H
theorem call_repr (hG : X.A.guards = some []) (hu : X.A.units + 64 < cLine) : CallR X (.builtin "repr") (rRepr X.K) := by
  intro pins s σ H xs us Q I r h
  obtain ⟨v, d, rfl, hd, hs, hn, h40, hz, q⟩ := h
  obtain ⟨u, rfl, ru⟩ := vals1 r
  have fin : ∀ (h' : Heap) (tk : Nat) (u : Tok), (∀ b o, s.heap.get? b = some o → h'.get? b = some o) → EP X pins σ Q (.str d.shown u) { s with heap := h', toks := tk } :=
    fun h' tk u hk => ⟨.str d.shown, H, I.un (Un.kept hk) (I.hok.kept hk), ⟨u, rfl⟩, q⟩
  obtain ⟨as, rd⟩ := Dp.reads I d v u hd ru
  cases hd with
  | non =>
    cases ru
    exact P.repr_of_none (fin s.heap _ _ fun _ _ z => z)
  | bl b =>
    cases ru
    refine P.repr_of_bool ?_
    have z := fin s.heap (s.toks + 1) s.toks fun _ _ z => z
    cases b <;> exact z
  | int i =>
    obtain ⟨t, rfl⟩ := ru
    refine P.repr_of_int ?_ ?_
    · simpa [PyData.showable] using hs
    · have z := fin s.heap (s.toks + 1) s.toks fun _ _ z => z
      simpa [PyData.shown] using z
  | str x =>
    obtain ⟨t, rfl⟩ := ru
    have z := fin s.heap (s.toks + 1) s.toks fun _ _ z => z
    simp only [PyData.shown_str] at z hz
    exact P.repr_of_str z hz
  | lst h1 h2 =>
    cases ru
    exact repr_of_reads' rd hs (PyData.noDict_hsm hn) hG (by omega) (fun _ _ z => z) (fun h' u tk hk => fin h' tk u hk) hz
  | tup h1 h2 =>
    cases ru
    exact repr_of_reads' rd hs (PyData.noDict_hsm hn) hG (by omega) (fun _ _ z => z) (fun h' u tk hk => fin h' tk u hk) hz
end
end RO

namespace RO
open PySem PySem.Spec PyProof.Rows L2

/-- the abstract heap at the law's entry: the script alone, locked, where the text itself doesn't hold it -/
def scriptH (K : PySem.W.Frag) (a : Addr) (o : Obj) (ns : List Int) : Hp := fun b => if b = a ∧ K.lookup a = none then some (.frz o (.lst (ns.map V.int))) else none

/-- the law's def is called as TURN's statement calls it -/
theorem law_runs {P : Program} {w : World} {K : PySem.W.Frag} {mg mb : Str → Option Value} {k : Nat} {fa a : Addr} {fd : FuncData} {x : Str} {sp : Sp} {s1 : Shared} {vs : List Value} {ns : List Int}
    (hK : K.In s1.heap) (hm : s1.heap.Ns mainGlobals mg) (hb : s1.heap.Ns builtinsNs mb) (hbb : ∀ y : Str, y ≠ "__name__" → mb y = bootBuiltins y) (hL : s1.heap.NoLimit) (hgn : s1.gens = #[])
    (ha : s1.heap.get? a = some { cls := .type "list", data := .seq vs.toArray }) (hi : IntsAre vs ns) (hn : ns.length ≤ sizeLine) (hr : Room k callerA)
    (F : ∀ base : Heap, K.In base → base.Ns mainGlobals mg → GOk P w K mg base CX0 k fa fd [x] sp) (hbd : ∀ (s : Shared) (u : Value), BindsTo s fd ⟨[u], []⟩ [(x, u)])
    (hsp : ∀ H : Hp, Only H → SqL K H a (ns.map V.int) → sp [.ref a] H (fun v _ => v = .bl true) fun _ _ _ => False) :
    codeAny (model P w) callerA (.call (.ref fa) ⟨[.ref a], []⟩) (fun r s' => r = .ok (.ret (.bool true)) ∧ OldK s1.heap s'.heap ∧ s'.os = s1.os ∧ AllBare s'.gens) s1 := by
  let ob : Obj := { cls := .type "list", data := .seq vs.toArray }
  let H : Hp := scriptH K a ob ns
  have hH : ∀ b u, H b = some u → b = a ∧ K.lookup a = none ∧ u = .frz ob (.lst (ns.map V.int)) := by
    intro b u z
    by_cases c : b = a ∧ K.lookup a = none
    · have z2 : (if b = a ∧ K.lookup a = none then some (HO.frz ob (.lst (ns.map V.int))) else none) = some u := z
      rw [if_pos c] at z2
      cases z2
      exact ⟨c.1, c.2, rfl⟩
    · have z2 : (if b = a ∧ K.lookup a = none then some (HO.frz ob (.lst (ns.map V.int))) else none) = some u := z
      rw [if_neg c] at z2
      cases z2
  have hOnly : Only H := fun b => by
    cases z : H b with
    | none => exact .inl rfl
    | some u => exact .inr ⟨ob, _, congrArg some (hH b u z).2.2⟩
  have rv := vals_ints hi
  have sizes : vs.length = ns.length := hi.length
  have hS : SqL K H a (ns.map V.int) := by
    cases z : K.lookup a with
    | some o =>
      have e := hK a o z
      rw [ha] at e
      cases e
      exact Or.inr ⟨_, vs.toArray, _, z, rfl, rfl, rfl, by rw [List.size_toArray, sizes]; exact hn, by simpa using rv⟩
    | none => exact Or.inl (Or.inr ⟨ob, if_pos ⟨rfl, z⟩⟩)
  have hOk : HOk P w H s1.heap := fun b u z => by
    obtain ⟨e1, _, e3⟩ := hH b u z
    subst e1
    subst e3
    exact ⟨ha, by rw [List.length_map]; exact hn, vs, _, rv, ha⟩
  have stays : ∀ {b : Addr} {o : Obj}, s1.heap.get? b = some o → H b = none → (hidT s1.heap H).get? b = some o := fun e n => hidT_get e n
  have keptK : K.In (hidT s1.heap H) := by
    intro b o z
    refine stays (hK b o z) ?_
    cases q : H b with
    | none => rfl
    | some u =>
      obtain ⟨e1, e2, _⟩ := hH b u q
      rw [e1, e2] at z
      cases z
  have keptN : ∀ {b : Addr} {m : Str → Option Value}, s1.heap.Ns b m → (hidT s1.heap H).Ns b m := by
    rintro b m ⟨o, es, ep, e, d, r⟩
    refine ⟨o, es, ep, stays e ?_, d, r⟩
    cases q : H b with
    | none => rfl
    | some u =>
      obtain ⟨e1, _, _⟩ := hH b u q
      rw [e1, ha] at e
      cases e
      exact nomatch (show Data.seq vs.toArray _ = Data.dict es ep from d)
  obtain ⟨mc, l1, l2⟩ := hL
  have start0 : Env0 P w K mg (hidT s1.heap H) callerA [] s1 H :=
    { frames := rfl
      mod := ⟨keptK, keptN hm, ⟨mb, keptN hb, hbb⟩, ⟨mc, keptN l1, l2⟩⟩
      bs := fun _ _ z => of_hidT z
      bsz := Nat.le_of_eq (hidT_size _ _)
      funs := trivial
      frf := fun b z => absurd (show b ∈ ([] : List Addr) from z) (by simp)
      hok := hOk
      bare := .of_eq hgn }
  apply codeAny_mono ((F _ keptK (keptN hm)).runs callerA [] s1 H ⟨[.ref a], []⟩ [.ref a] [.ref a] _ _ hr rfl start0 (hbd s1 (.ref a)) (.cons rfl .nil) (hsp H hOnly hS))
  intro r s' h
  match r, h with
  | .error _, h => exact h.elim
  | .ok .next, h => exact h.elim
  | .ok .brk, h => exact h.elim
  | .ok .cont, h => exact h.elim
  | .ok (.ret u), ⟨v, H', os, bare, un, hok', r', q⟩ =>
    have q' : v = .bl true := q
    subst q'
    have r2 : u = Value.bool true := r'
    subst r2
    refine ⟨rfl, OldK.of_keep fun b o e => ?_, os, bare⟩
    cases q : H b with
    | none => exact un.keep b o e q (by intro z; exact absurd (show b ∈ ([] : List Addr) from z) (by simp)) (by simp)
    | some t =>
      have q2 := q
      rw [(hH b t q).2.2] at q2
      have f1 := (hOk b _ q2).1
      have f2 := (hok' b _ (un.frzs b ob _ q2)).1
      rw [e] at f1
      rw [f2, f1]

/-- the goal behind the head, from the law's promise; the script's bits told -/
theorem walk_G {l : PySem.W.OpenLaw} {n k : Nat} {q : Program} {loose : List Str} {XP : (Str → Option Value) → Heap → Prop} {YP : World → Heap → Prop} {d : DefRec} {K : Params → PySem.W.Frag} {sp : PySem.W.Frag → Sp} {x : Str}
    (hn : l.most = some n) (hn2 : n ≤ sizeLine) (hdf : d.params.defaults = []) (hr : Room k callerA) (hY : ∀ (w : World) (h : Heap), YP w h → (K w.params).In h)
    (F : ∀ (w : World) (mg : Str → Option Value) (fa : Addr) (h : Heap), (K w.params).In h → h.Ns mainGlobals mg → mg d.name = some (.ref fa) →
      ∃ fd : FuncData, (∀ (s : Shared) (u : Value), BindsTo s fd ⟨[u], []⟩ [(x, u)]) ∧ ∀ base : Heap, (K w.params).In base → base.Ns mainGlobals mg → GOk l.prog w (K w.params) mg base CX0 k fa fd [x] (sp (K w.params)))
    (hsp : ∀ (K : PySem.W.Frag) (H : Hp) (a : Addr) (ns : List Int), ns.length ≤ n → (∀ k ∈ ns, Builtin.Int.intBits k ≤ 1048576) → Only H → SqL K H a (ns.map V.int) → sp K [.ref a] H (fun v _ => v = .bl true) fun _ _ _ => False) :
    PySem.W.WalkO q loose XP YP l.row.toRowW d [] (fun f vs => PySem.call f vs) := by
  apply Att.attach_callB hn hdf
  intro w s0 s1 mg mb fa o pm cd doc a vs ns G Y ho hd hcd hmg hobj hints hlen hbits hg
  have hK := hY w _ Y
  obtain ⟨fd, hb, hF⟩ := F w mg fa _ hK G.T.g hmg
  exact law_runs hK G.T.g G.T.b G.T.builtins G.T.nolimit hg hobj hints (Nat.le_trans hlen hn2) hr hF hb fun H hO hS => hsp (K w.params) H a ns hlen hbits hO hS
end RO

namespace RO
open PySem PySem.Spec PyProof.Rows L2

/-! ### enumerate of a tuple -/
theorem drawsT {prog : Program} {w : World} {A : Around} (hh : A.handled = none) (it t : Addr) (hne : t ≠ it) (items : Array Value) :
    Draws prog w A it [it, t] items.size (fun i v => items[i]? = some v) (fun i h => h.IsTupleIter it t i ∧ h.IsTuple t items) where
  live := fun _ _ st => by
    obtain ⟨⟨o, ho, _⟩, _⟩ := st
    exact ⟨o, ho⟩
  frame := fun i h h' st hk => ⟨Heap.IsTupleIter.at st.1 (hk it (List.mem_cons_self ..)), by
    obtain ⟨o, e, r⟩ := st.2
    exact ⟨o, hk t (by simp) o e, r⟩⟩
  item := fun i s Q E hi st hQ => RZ.nextOf_tuple_item st.1 st.2 (x := items[i]) (by simp [hi]) fun h' hit' sb =>
    hQ _ h' s.toks (by simp [hi]) ⟨hit', by
      obtain ⟨o, e, r⟩ := st.2
      exact ⟨o, (sb.2 t hne).trans e, r⟩⟩ sb
  done := fun s Q E st hE => RZ.nextOf_tuple_end hh st.1 st.2 (by simp) hE

open Sem (wp) in
open AutoSeq1 (wpAny_loadPart') in
theorem meets_enum_newT (l : Addr) (items : Array Value) (n : Nat) (dct : Option Addr) (sl : Array (Option Value)) :
    Meets (Builtin.«enumerate.__new__» ⟨[.type "enumerate", .ref l], []⟩) (fun _ R s => s.heap.get? l = some { cls := .type "tuple", dict := dct, data := .seq items n, slots := sl } ∧
      R (.ok (.ret (.ref (s.heap.push { cls := .type "tuple_iterator", data := .fields #[.ref l, .int 0 0] }).objs.size)))
        { s with heap := (s.heap.push { cls := .type "tuple_iterator", data := .fields #[.ref l, .int 0 0] }).push { cls := .type "enumerate", data := .fields #[.none, .bool false, .ref s.heap.objs.size, rawInt 0, .none, .none] } }) := by
  refine Meets.of_wp fun prog w A R s h => ?_
  obtain ⟨hp, g, d, tk, os⟩ := s
  obtain ⟨hl, h⟩ := h
  have hsub := sub_enumerate
  have hT : Heap.IsTuple (Shared.heap ⟨hp, g, d, tk, os⟩) l items := ⟨_, hl, rfl, n, rfl⟩
  wp_walk using wpAny_loadPart' hl
  refine wpAny_stack_any fun st => wpAny_pure ?_
  split
  · rename_i c _ _ _ _ _
    cases (c == Value.type "enumerate") <;>
      (wp_walk using wpAny_loadPart' hl, wpAny_pyIter_tuple hT; exact ⟨_, rfl, h⟩)
  · wp_walk using wpAny_loadPart' hl, wpAny_pyIter_tuple hT
    exact ⟨_, rfl, h⟩

theorem call_enumT {prog : Program} {w : World} {A : Around} {E : Value → Shared → Prop} {s : Shared} {l : Addr} {items : Array Value} {Q : Value → Shared → Prop} (hT : s.heap.IsTuple l items)
    (h : ∀ h', IsEnum h' (s.heap.objs.size + 1) s.heap.objs.size 0 .none → h'.IsTupleIter s.heap.objs.size l 0 → h'.objs.size = s.heap.objs.size + 2 → (∀ b o, s.heap.get? b = some o → h'.get? b = some o) →
      Q (.ref (s.heap.objs.size + 1)) { s with heap := h' }) : wpAny (model prog w) A (call (.type "enumerate") [.ref l]) Q E s := by
  obtain ⟨⟨c, dct, dt, sl⟩, hl, hc, n, hd⟩ := hT
  have hc' : c = .type "tuple" := hc
  have hd' : dt = .seq items n := hd
  subst hc' hd'
  apply callType_new F.called_enumerate (by decide) (F.typeCall_enumerate_1 _) (F.newCall_enumerate_1 _) (fun obj => F.args_object_init_2 obj _) F.entry_enumerate_new (meets_enum_newT l items n dct sl)
  refine ⟨hl, ?_⟩
  let h1 := s.heap.push { cls := .type "tuple_iterator", data := .fields #[.ref l, .int 0 0] }
  have hz : h1.objs.size = s.heap.objs.size + 1 := Heap.size_push ..
  show _ ∧ _
  rw [show (s.heap.push { cls := .type "tuple_iterator", data := .fields #[.ref l, .int 0 0] }).objs.size = s.heap.objs.size + 1 from hz]
  have he : IsEnum (h1.push { cls := .type "enumerate", data := .fields #[.none, .bool false, .ref s.heap.objs.size, rawInt 0, .none, .none] }) (s.heap.objs.size + 1) s.heap.objs.size 0 .none := by
    have z := Heap.get?_push_size h1 (o := { cls := .type "enumerate", data := .fields #[.none, .bool false, .ref s.heap.objs.size, rawInt 0, .none, .none] }) rfl
    rw [hz] at z
    exact z
  exact ⟨⟨_, he, rfl⟩, h _ he ⟨_, Heap.get?_push_of_some _ (Heap.get?_push_size _ rfl), rfl, rfl⟩ ((Heap.size_push ..).trans (congrArg (· + 1) hz)) fun b o x => Heap.get?_push_of_some _ (Heap.get?_push_of_some _ x)⟩

/-- the tuple at a, each item in a new pair with its number -/
def IteT (K : PySem.W.Frag) (a : Addr) : It where
  go := fun i H => ∃ (xs : List V) (x : V), SqT K H a xs ∧ xs[i]? = some x
  yld := fun i H v H' => ∃ T x, v = .ref T ∧ H T = none ∧ H' = upd H T (.tup [.int (i : Nat), x]) ∧ ∀ xs, SqT K H a xs → xs[i]? = some x
  stop := fun i H => ∃ xs : List V, SqT K H a xs ∧ xs.length = i

theorem turn_enumT {P : Program} {w : World} {K : PySem.W.Frag} {elts : List Expr} {kk : Nat} {tpos : Pos} (a e it : Addr) (hae : a ≠ e) (hai : a ≠ it) (hne : e ≠ it) :
    Turn P w K (.Tuple elts kk tpos) (IteT K a) [e, it] e (fun i h => (∃ old, IsEnum h e it ((i : Nat) : Int) old) ∧ h.IsTupleIter it a i) where
  mem := List.mem_cons_self ..
  obj := fun i h st b hb => by
    obtain ⟨⟨old, he⟩, ⟨o, ho, hc, hd⟩⟩ := st
    rcases List.mem_cons.mp hb with z | z
    · rw [z]
      exact ⟨_, he, fun v q => nomatch q⟩
    · have z' : b = it := by simpa using z
      exact ⟨o, z' ▸ ho, fun v q => by rw [hd] at q; cases q⟩
  keep := fun i h h' st k => by
    obtain ⟨⟨old, he⟩, hi⟩ := st
    exact ⟨⟨old, k e (by simp) _ he⟩, Heap.IsTupleIter.at hi (k it (by simp))⟩
  item := by
    intro X hP hw hK hc i pins s σ H E I hf st hg
    subst hP hw hK
    obtain ⟨⟨old, he⟩, hit⟩ := st
    obtain ⟨xs, x, hq, hx⟩ := hg
    obtain ⟨its, rv, p, hz⟩ := I.tuple hq
    obtain ⟨u, hu, ru⟩ := rv.get hx
    have hlt : i < its.toArray.size := by
      obtain ⟨z, _⟩ := List.getElem?_eq_some_iff.mp hu
      simpa using z
    have hel : e < s.heap.objs.size := Heap.lt_size he
    have hil : it < s.heap.objs.size := by
      obtain ⟨_, q, _⟩ := hit
      exact Heap.lt_size q
    refine wpAny_pyNext_enum_itemD (drawsT (A := X.A.in1) (I.ok.hd hc) it a hai its.toArray) he ⟨hit, p⟩ hlt hne (by simp [hne, Ne.symm hae]) fun y h' tk hy ho hst hT hsz hk => ?_
    have ey : y = u := by
      have z : its.toArray[i]? = some u := by simpa using hu
      exact Option.some.inj (hy.symm.trans z)
    subst ey
    refine ⟨_, rfl, wpAny_letOwnedTupleGo_enum (s := { s with heap := h', toks := tk + 1 }) ho fun h2 he2 sb => ?_⟩
    have hT2 : h2.get? s.heap.objs.size = some { cls := .type "tuple", data := .seq #[.int i tk, y] } := (sb.2 _ (Nat.ne_of_gt hel)).trans hT
    have new : ObjOk X.prog X.w (upd H s.heap.objs.size (.tup [.int (i : Nat), x])) h2 s.heap.objs.size (.tup [.int (i : Nat), x]) := by
      refine ⟨by show 2 ≤ sizeLine; decide, [.int i tk, y], .cons ⟨_, rfl⟩ (.cons ru .nil), ⟨_, hT2, rfl, _, rfl⟩⟩
    have I1 : Inv X pins σ (upd H s.heap.objs.size (.tup [.int (i : Nat), x])) { s with heap := h2, toks := tk + 1 } := by
      refine I.turnedNew (ch := [e, it]) (fun b ob hb q => ?_) hf (Nat.le_refl _) new
      have n1 : b ≠ e := fun z => hb (by simp [z])
      have n2 : b ≠ it := fun z => hb (by simp [z])
      exact (sb.2 b n1).trans (hk b ob n1 n2 q)
    refine ⟨.ref s.heap.objs.size, _, I1, rfl, ⟨_, x, rfl, I.hok.fresh (Nat.le_refl _), rfl, fun ys hy => (I.tuple_inj hy hq).symm ▸ hx⟩, ⟨⟨y, ?_⟩, Heap.IsTupleIter.at hst.1 fun o q => (sb.2 it (Ne.symm hne)).trans q⟩, fun b hb => ?_⟩
    · rw [show ((i + 1 : Nat) : Int) = (i : Int) + 1 from by omega]
      exact he2
    · have hb2 : b = e ∨ b = it := by simpa using hb
      have lt : b < s.heap.objs.size := hb2.elim (fun z => z ▸ hel) fun z => z ▸ hil
      exact (upd_ne (Nat.ne_of_lt lt)).trans (hf b hb).1
  done := by
    intro X hP hw hK hc i pins s σ H E I hf st hg
    subst hP hw hK
    obtain ⟨⟨old, he⟩, hit⟩ := st
    obtain ⟨xs, hq, hx⟩ := hg
    obtain ⟨its, rv, p, hz⟩ := I.tuple hq
    obtain ⟨f0, f1, f2, f3, f4, f5⟩ := hf it (by simp)
    have hl : its.toArray.size = i := by
      rw [List.size_toArray, ← rv.length, hx]
    rw [← hl] at hit
    exact wpAny_pyNext_enum_endD (drawsT (A := X.A.in1) (I.ok.hd hc) it a hai its.toArray) he ⟨hit, p⟩ fun h' eb => ⟨rfl, I.turned (t' := s.toks) (fun b o hb q => eb b o hb q) f0 f1 f3 f4 f5⟩
  self := fun A i s Q E st h => by
    obtain ⟨⟨_, he⟩, _⟩ := st
    exact wpAny_pyIter_enum he h

/-- enumerate(x), x a list or a tuple -/
def iEnumA (K : PySem.W.Frag) (ta : TA) : TI := fun σ H R => ta σ H fun vs H1 => ∃ a xs, vs = [.ref a] ∧ ((SqL K H1 a xs ∧ R (Ite K a) H1) ∨ (SqT K H1 a xs ∧ R (IteT K a) H1))
theorem pi_enumA {X : Cx} {e : Expr} {ta : TA} {p pos tpos : Pos} {elts : List Expr} {kk : Nat} (hg : Gl X "enumerate") (hm : X.mg "enumerate" = none) (ha : PA X [e] ta) (hs : starEach [e] X.env = [(false, eval e X.env)] := by rfl) :
    PI X (.Tuple elts kk tpos) (.Call (.Name "enumerate" p) [e] [] pos) (iEnumA X.K ta) := by
  constructor
  intro pins s σ H R I h
  refine Call_ ?_
  apply ld_blt I hg hm boot_enumerate
  apply PyProof.Rows.callWith_type1 _ hs rfl
  apply thn (ha.run pos pins s σ H _ I h)
  rintro us s1 ⟨vs, H1, I1, r1, a, xs, ex, q⟩
  subst ex
  obtain ⟨u, rfl, ru⟩ := vals1 r1
  obtain rfl : u = Value.ref a := ru
  have hle : ∀ b, b ∈ [s1.heap.objs.size + 1, s1.heap.objs.size] → FpOk X pins H1 b := fun b hb => by
    have z : b = s1.heap.objs.size + 1 ∨ b = s1.heap.objs.size := by simpa using hb
    have l : s1.heap.objs.size ≤ b := by omega
    exact I1.fpOk l (I1.hok.fresh l)
  rcases q with ⟨hq, q⟩ | ⟨hq, q⟩
  · obtain ⟨its, rv, p', hz⟩ := I1.list hq
    refine call_enumerate_list p'.isList fun h' he hit hsz hk => wpAny_pyIter_enum he ?_
    exact ⟨s1.heap.objs.size + 1, [s1.heap.objs.size + 1, s1.heap.objs.size], _, _, H1, rfl, I1.kept (t' := s1.toks) hk, turn_enum a (s1.heap.objs.size + 1) s1.heap.objs.size, ⟨⟨.none, he⟩, hit, Nat.succ_ne_self _⟩, hle, q⟩
  · obtain ⟨its, rv, p', hz⟩ := I1.tuple hq
    obtain ⟨o, ho, _⟩ := id p'
    have hal : a < s1.heap.objs.size := Heap.lt_size ho
    refine call_enumT p' fun h' he hit hsz hk => wpAny_pyIter_enum he ?_
    exact ⟨s1.heap.objs.size + 1, [s1.heap.objs.size + 1, s1.heap.objs.size], _, _, H1, rfl, I1.kept (t' := s1.toks) hk, turn_enumT a (s1.heap.objs.size + 1) s1.heap.objs.size (Nat.ne_of_lt (Nat.lt_succ_of_lt hal)) (Nat.ne_of_lt hal) (Nat.succ_ne_self _), ⟨⟨.none, he⟩, hit⟩, hle, q⟩

section
variable {K : PySem.W.Frag} {a : Addr} {xs : List V}
theorem walk_enumT : Walk (IteT K a) xs.length (fun H => SqT K H a xs) (YPair (fun i => some (.int (i : Nat))) (fun i => xs[i]?)) where
  goes := fun i _ hi q => ⟨xs, xs[i], q, by simp [hi]⟩
  stops := fun _ q => ⟨xs, q, rfl⟩
  yields := fun i H v H' _ q y => by
    obtain ⟨T, x, h1, h2, h3, h4⟩ := y
    exact ⟨T, _, x, h1, h2, h3, rfl, h4 xs q⟩
theorem walk_revT : Walk (RT.ItvT K a xs.length) xs.length (fun H => SqT K H a xs) (fun i H x H' => H' = H ∧ xs[xs.length - 1 - i]? = some x) where
  goes := fun i _ hi q => ⟨hi, xs, xs[xs.length - 1 - i], q, by
    have : xs.length - 1 - i < xs.length := by omega
    simp [this]⟩
  stops := fun _ _ => Nat.le_refl _
  yields := fun i H v H' _ q y => ⟨y.1, y.2 xs q⟩
end
end RO

namespace RO
open PySem PySem.Spec PyProof.Rows L2

/-! ### heaps -/
/-- what is tracked, but at p, is kept -/
def But (p : Addr) (H H' : Hp) : Prop := ∀ b o, b ≠ p → H b = some o → H' b = some o
section
variable {K : PySem.W.Frag} {H H0 H1 H2 : Hp} {p q a c l : Addr} {o : HO} {xs : List V} {n m : Nat}
theorem But.refl : But p H H := fun _ _ _ h => h
theorem But.trans (h : But p H H1) (h2 : But p H1 H2) : But p H H2 := fun b u n e => h2 b u n (h b u n e)
theorem But.of_same (h : Same H H1) : But p H H1 := fun b u _ e => h b u e
theorem But.put : But p H (upd H p o) := fun b u n e => (upd_ne n).trans e
theorem But.new (h : But p H0 H) (hq : H q = none) : But p H0 (upd H q o) := fun b u n e => (upd_ne (ne_of_none (h b u n e) hq)).trans (h b u n e)
/-- a place that was free at the beginning may be written -/
theorem But.own (h : But p H0 H) (hl : H0 l = none) : But p H0 (upd H l o) := fun b u n e => (upd_ne (ne_of_none e hl)).trans (h b u n e)
theorem But.rd {u : HO} (h : But p H H1) (n : a ≠ p) (r : Rd H a u) : Rd H1 a u := by
  rcases r with r | ⟨o, r⟩
  · exact .inl (h _ _ n r)
  · exact .inr ⟨o, h _ _ n r⟩
theorem But.seqL (h : But p H H1) (n : a ≠ p) (r : SqL K H a xs) : SqL K H1 a xs := r.imp (h.rd n) id
theorem But.seqT (h : But p H H1) (n : a ≠ p) (r : SqT K H a xs) : SqT K H1 a xs := r.imp (h.rd n) id
theorem same_rd {u : HO} (h : Same H H1) (r : Rd H a u) : Rd H1 a u := by
  rcases r with r | ⟨o, r⟩
  · exact .inl (h _ _ r)
  · exact .inr ⟨o, h _ _ r⟩
theorem same_seqL (h : Same H H1) (r : SqL K H a xs) : SqL K H1 a xs := r.imp (same_rd h) id
theorem same_seqT (h : Same H H1) (r : SqT K H a xs) : SqT K H1 a xs := r.imp (same_rd h) id
theorem same_new (h : Same H0 H) (hq : H q = none) : Same H0 (upd H q o) := fun b u e => (upd_ne (ne_of_none (h b u e) hq)).trans (h b u e)
theorem same_own (h : Same H0 H) (hl : H0 l = none) : Same H0 (upd H l o) := fun b u e => (upd_ne (ne_of_none e hl)).trans (h b u e)

theorem alloc (hl : H l = none) (e : upd H l o = H1) : Same H H1 ∧ H1 l = some o := by
  subst e
  exact ⟨same_new (Same.refl _) hl, upd_same⟩

theorem owned (S : Same H0 H) (hl : H0 l = none) (e : upd H l o = H1) : Same H0 H1 ∧ H1 l = some o := by
  subst e
  exact ⟨same_own S hl, upd_same⟩

/-! ### the law's pen: a list of the script's cells, a place, a rest -/
def PenAt (H : Hp) (p c : Addr) (n : Nat) : Prop := ∃ at_ cy : Int, H p = some (.lst [.ref c, .int at_, .int cy]) ∧ 0 ≤ at_ ∧ at_ ≤ n ∧ 0 ≤ cy
def Cells (K : PySem.W.Frag) (H : Hp) (p c : Addr) : Prop := c ≠ p ∧ ∃ ns : List Int, SqL K H c (ns.map V.int) ∧ ns.length ≤ 63
/-- from H0 to H: the pen at p has gone on to n draws at most, all else is kept -/
structure Go (K : PySem.W.Frag) (p c : Addr) (H0 : Hp) (n : Nat) (H : Hp) : Prop where
  but : But p H0 H
  pen : PenAt H p c n
  cel : Cells K H p c
theorem Cells.but (h : Cells K H p c) (b : But p H H1) : Cells K H1 p c := by
  obtain ⟨ne, ns, r, l⟩ := h
  exact ⟨ne, ns, b.seqL ne r, l⟩
theorem PenAt.mono (h : PenAt H p c n) (hm : n ≤ m) : PenAt H p c m := by
  obtain ⟨i, j, e, h1, h2, h3⟩ := h
  exact ⟨i, j, e, h1, by omega, h3⟩
theorem Go.refl (h : PenAt H p c n) (hc : Cells K H p c) : Go K p c H n H := ⟨But.refl, h, hc⟩
theorem Go.self (g : Go K p c H0 n H) : Go K p c H n H := ⟨But.refl, g.pen, g.cel⟩
theorem Go.mono (g : Go K p c H0 n H) (hm : n ≤ m) : Go K p c H0 m H := ⟨g.but, g.pen.mono hm, g.cel⟩
theorem Go.trans (g : Go K p c H0 n H1) (g2 : Go K p c H1 m H2) : Go K p c H0 m H2 := ⟨g.but.trans g2.but, g2.pen, g2.cel⟩
theorem Go.tracked (g : Go K p c H0 n H) : ∃ o, H p = some o := by
  obtain ⟨_, _, e, _⟩ := g.pen
  exact ⟨_, e⟩
theorem Go.ne_new (g : Go K p c H0 n H) (hq : H q = none) : p ≠ q := by
  obtain ⟨o, e⟩ := g.tracked
  exact ne_of_none e hq
theorem Go.make {i j : Int} (hc : Cells K H0 p c) (b : But p H0 H) (e : H p = some (.lst [.ref c, .int i, .int j])) (h1 : 0 ≤ i) (h2 : i ≤ (n : Nat)) (h3 : 0 ≤ j) : Go K p c H0 n H := ⟨b, ⟨i, j, e, h1, h2, h3⟩, hc.but b⟩
theorem Go.free (g : Go K p c H0 n H) (hq : H q = none) : H0 q = none := by
  cases z : H0 q with
  | none => rfl
  | some o => exact absurd (g.but q o (Ne.symm (g.ne_new hq)) z) (by rw [hq]; exact nofun)
/-- a new object -/
theorem Go.new (g : Go K p c H0 n H) (hq : H q = none) : Go K p c H0 n (upd H q o) := by
  have hp := g.ne_new hq
  obtain ⟨i, j, e, r⟩ := id g.pen
  have b1 : But p H (upd H q o) := But.refl.new hq
  exact ⟨g.but.new hq, ⟨i, j, (upd_ne hp).trans e, r⟩, g.cel.but b1⟩
/-- an own object is written: it was free at the beginning; the cells aren't it -/
theorem Go.own (g : Go K p c H0 n H) (hl : H0 l = none) (hp : l ≠ p) (hc : Cells K H0 p c) : Go K p c H0 n (upd H l o) := by
  obtain ⟨i, j, e, r⟩ := id g.pen
  exact ⟨g.but.own hl, ⟨i, j, (upd_ne (Ne.symm hp)).trans e, r⟩, hc.but (g.but.own hl)⟩
theorem Go.same (g : Go K p c H0 n H) (h : Same H H1) : Go K p c H0 n H1 := by
  obtain ⟨i, j, e, r⟩ := id g.pen
  exact ⟨g.but.trans (But.of_same h), ⟨i, j, h _ _ e, r⟩, g.cel.but (But.of_same h)⟩
end

/-! ### numbers -/
theorem fmod_lt {a b : Int} (h : 0 < b) : Int.fmod a b < b := Int.fmod_lt_of_pos a h
theorem fmod_ge {a b : Int} (h : 0 < b) : 0 ≤ Int.fmod a b := Int.fmod_nonneg_of_pos a h
theorem fdiv_ge {a b : Int} (h : 0 ≤ a) (h2 : 0 ≤ b) : 0 ≤ Int.fdiv a b := Int.fdiv_nonneg h h2

theorem atI_fmod {α : Type} {xs : List α} {i : Int} (h : 0 < xs.length) : ∃ v, v ∈ xs ∧ atI xs (Int.fmod i xs.length) = some v := by
  have h0 : (0 : Int) < xs.length := by omega
  have g := fmod_ge (a := i) h0
  have l := fmod_lt (a := i) h0
  obtain ⟨j, e⟩ := Int.eq_ofNat_of_zero_le g
  rw [e] at l ⊢
  have hj : j < xs.length := by omega
  exact ⟨xs[j], List.getElem_mem hj, atI_nat (List.getElem?_eq_getElem hj)⟩
theorem atI_lt {α : Type} {xs : List α} {i : Int} (h0 : 0 ≤ i) (h : i < xs.length) : ∃ v, v ∈ xs ∧ atI xs i = some v := by
  obtain ⟨j, rfl⟩ := Int.eq_ofNat_of_zero_le h0
  have hj : j < xs.length := by omega
  exact ⟨xs[j], List.getElem_mem hj, atI_nat (List.getElem?_eq_getElem hj)⟩

/-! ### data whose repr is short -/
structure RepOk (d : PyData) (k n : Nat) : Prop where
  sh : d.showable = true
  nd : d.hasDict = false
  dp : d.depth ≤ k
  lv : d.leavesShort 400 = true
  cl : d.canLay0 = true
  bk : d.bulk ≤ n
theorem RepOk.mono {d : PyData} {k n k' n' : Nat} (h : RepOk d k n) (hk : k ≤ k') (hn : n ≤ n') : RepOk d k' n' := ⟨h.sh, h.nd, Nat.le_trans h.dp hk, h.lv, h.cl, Nat.le_trans h.bk hn⟩
theorem RepOk.fits {d : PyData} {k n : Nat} (h : RepOk d k n) (hn : n ≤ 40000) : d.shown.length ≤ sizeLine := by
  have e := PyData.shown_le_bulk 400 (by decide) d h.lv
  have b := h.bk
  have : (400 + 2) * d.bulk ≤ 402 * 40000 := Nat.mul_le_mul (by decide) (by omega)
  rw [sizeLine_eq]
  omega
theorem RepOk.none : RepOk .none 0 0 := ⟨rfl, rfl, Nat.le_refl _, by decide +kernel, rfl, Nat.le_refl _⟩
theorem RepOk.bool (b : Bool) : RepOk (.bool b) 0 0 := ⟨rfl, rfl, Nat.le_refl _, by cases b <;> decide +kernel, rfl, Nat.le_refl _⟩
theorem log2_small {i : Int} (h : i.natAbs < 2 ^ 398) : i.natAbs.log2 < 398 := by
  by_cases z : i.natAbs = 0
  · rw [z]
    decide
  · exact (Nat.log2_lt z).mpr h
theorem RepOk.int {i : Int} (h : i.natAbs < 2 ^ 398) : RepOk (.int i) 0 0 := by
  have l := log2_small h
  refine ⟨?_, rfl, Nat.le_refl _, ?_, rfl, Nat.le_refl _⟩
  · simp only [PyData.showable, decide_eq_true_eq]
    omega
  · have e := int_text_length_le (a := i) (k := 398) (by decide) l
    have e2 : (Str.ofString (toString i)).length = (toString i).length := PySem.ofString_length _
    have e3 : (PyData.int i).shown.length ≤ 400 := by
      show (Str.ofString (toString i)).length ≤ 400
      rw [e2]
      exact Nat.le_trans e (by decide)
    unfold PyData.leavesShort
    exact decide_eq_true e3
theorem RepOk.str {x : Str} {n : Nat} (h : x.length ≤ n) (hc : ∀ c ∈ x.cps.toList, c < 16 ^ 8) (ho : (PyData.str x).canLay0 = true) : RepOk (.str x) 0 n := by
  refine ⟨rfl, rfl, Nat.le_refl _, ?_, ho, h⟩
  simp only [PyData.leavesShort, List.all_eq_true, decide_eq_true_eq]
  exact hc
theorem rep_all {ds : List PyData} {k n : Nat} : (∀ d ∈ ds, RepOk d k n) → PyData.showableAll ds = true ∧ PyData.hasDictAll ds = false ∧ PyData.depthAll ds ≤ k ∧ PyData.leavesShortAll 400 ds = true ∧ PyData.canLayAll0 ds = true ∧ PyData.bulkAll ds ≤ ds.length * (n + 1) := by
  induction ds with
  | nil => intro _; exact ⟨rfl, rfl, Nat.zero_le _, rfl, rfl, Nat.zero_le _⟩
  | cons d r ih =>
    intro h
    obtain ⟨h1, h2, h3, h4, h6, h5⟩ := ih fun x hx => h x (List.mem_cons_of_mem _ hx)
    have q := h d (List.mem_cons_self ..)
    refine ⟨?_, ?_, ?_, ?_, ?_, ?_⟩
    · simp only [PyData.showableAll, q.sh, h1, Bool.and_self]
    · simp only [PyData.hasDictAll, q.nd, h2, Bool.or_self]
    · simp only [PyData.depthAll]
      exact Nat.max_le.mpr ⟨q.dp, h3⟩
    · simp only [PyData.leavesShortAll, q.lv, h4, Bool.and_self]
    · simp only [PyData.canLayAll0, q.cl, h6, Bool.and_self]
    · simp only [PyData.bulkAll, List.length_cons]
      have b := q.bk
      have e : (r.length + 1) * (n + 1) = r.length * (n + 1) + (n + 1) := Nat.succ_mul _ _
      omega
theorem RepOk.list {ds : List PyData} {k n : Nat} (h : ∀ d ∈ ds, RepOk d k n) : RepOk (.list ds) (k + 1) (ds.length * (n + 1)) := by
  obtain ⟨h1, h2, h3, h4, h6, h5⟩ := rep_all h
  exact ⟨by simpa only [PyData.showable] using h1, by simpa only [PyData.hasDict] using h2, by simp only [PyData.depth]; omega, by simpa only [PyData.leavesShort] using h4, by simpa only [PyData.canLay0] using h6, by simpa only [PyData.bulk] using h5⟩
theorem RepOk.tuple {ds : List PyData} {k n : Nat} (h : ∀ d ∈ ds, RepOk d k n) : RepOk (.tuple ds) (k + 1) (ds.length * (n + 1)) := by
  obtain ⟨h1, h2, h3, h4, h6, h5⟩ := rep_all h
  exact ⟨by simpa only [PyData.showable] using h1, by simpa only [PyData.hasDict] using h2, by simp only [PyData.depth]; omega, by simpa only [PyData.leavesShort] using h4, by simpa only [PyData.canLay0] using h6, by simpa only [PyData.bulk] using h5⟩

theorem RepOk.shaped {d : PyData} {k n : Nat} (h : RepOk d k n) (hk : k ≤ 64) : SeqAt.shaped d = true := by
  unfold SeqAt.shaped
  rw [h.cl, Bool.true_and]
  exact decide_eq_true (Nat.le_trans h.dp hk)
/-- repr(x): its text, by the data alone -/
def rRepr2 (K : PySem.W.Frag) : List V → Hp → VK → Prop := fun xs H Q => ∃ v d k n, xs = [v] ∧ Dp K H v d ∧ RepOk d k n ∧ k ≤ 40 ∧ n ≤ 40000 ∧ Q (.str d.shown) H
theorem call_reprD {X : Cx} (hG : X.A.guards = some []) (hu : X.A.units + 64 < cLine) : CallR X (.builtin "repr") (rRepr2 X.K) := by
  intro pins s σ H xs us Q I r h
  obtain ⟨v, d, k, n, e, hd, ok, hk, hn, q⟩ := h
  exact call_repr hG hu pins s σ H xs us Q I r ⟨v, d, e, hd, ok.sh, ok.nd, Nat.le_trans ok.dp hk, ok.fits hn, q⟩

/-! data that is read at one heap is read at each that keeps what is tracked -/
section
variable {K : PySem.W.Frag} {H H1 : Hp}
mutual
theorem dp_same (h : Same H H1) : ∀ (d : PyData) (v : V), Dp K H v d → Dp K H1 v d
  | .none, _, q => by
    cases q
    exact .non
  | .bool b, _, q => by
    cases q
    exact .bl b
  | .int i, _, q => by
    cases q
    exact .int i
  | .str x, _, q => by
    cases q
    exact .str x
  | .list ds, _, q => by
    cases q with
    | lst h1 h2 => exact .lst (same_seqL h h1) (dpAll_same h ds _ h2)
  | .tuple ds, _, q => by
    cases q with
    | tup h1 h2 => exact .tup (same_seqT h h1) (dpAll_same h ds _ h2)
  | .dict _, _, q => nomatch q
theorem dpAll_same (h : Same H H1) : ∀ (ds : List PyData) (vs : List V), DpAll K H vs ds → DpAll K H1 vs ds
  | [], _, q => by
    cases q
    exact .nil
  | d :: ds, _, q => by
    cases q with
    | cons h1 h2 => exact .cons (dp_same h d _ h1) (dpAll_same h ds _ h2)
end
/-- flat things as data -/
theorem dpAll_ints : ∀ ns : List Int, DpAll K H (ns.map V.int) (ns.map PyData.int)
  | [] => .nil
  | n :: r => .cons (.int n) (dpAll_ints r)
theorem dpAll_strs : ∀ ns : List Str, DpAll K H (ns.map V.str) (ns.map PyData.str)
  | [] => .nil
  | n :: r => .cons (.str n) (dpAll_strs r)
theorem DpAll.map {α : Type} {f : α → V} {g : α → PyData} : ∀ {l : List α}, (∀ x ∈ l, Dp K H (f x) (g x)) → DpAll K H (l.map f) (l.map g)
  | [], _ => .nil
  | x :: r, h => .cons (h x (List.mem_cons_self ..)) (DpAll.map fun y hy => h y (List.mem_cons_of_mem _ hy))
end
end RO

namespace RO
open PySem PySem.Spec PyProof.Rows L2

/-! ### short texts -/
def TOk (k : Nat) (t : Str) : Prop := t.length ≤ k ∧ ∀ c ∈ t.cps.toList, c < 128
theorem TOk.mono {k j : Nat} {t : Str} (h : TOk k t) (l : k ≤ j) : TOk j t := ⟨Nat.le_trans h.1 l, h.2⟩
theorem str_len (t : Str) : t.length = t.cps.toList.length := by
  show t.cps.size = _
  simp
theorem cut_ok {k : Nat} {t : Str} (h : TOk k t) (lo hi : Option Int) : TOk k (cutS t lo hi) := by
  refine ⟨?_, fun c hc => ?_⟩
  · have e := str_len (cutS t lo hi)
    have e2 := str_len t
    have l := h.1
    rw [e]
    unfold cutS
    simp only [List.length_take, List.length_drop]
    omega
  · unfold cutS at hc
    simp only at hc
    exact h.2 c (List.mem_of_mem_drop (List.mem_of_mem_take hc))
theorem codes_app (a b : Str) : (a ++ b).cps.toList = a.cps.toList ++ b.cps.toList := by
  show (a.cps ++ b.cps).toList = _
  simp
theorem codes_join0 : ∀ l : List Str, (Str.join (Str.ofString "") l).cps.toList = l.flatMap (·.cps.toList)
  | [] => rfl
  | [x] => by
    show x.cps.toList = _
    simp
  | x :: y :: r => by
    show (x ++ Str.ofString "" ++ Str.join (Str.ofString "") (y :: r)).cps.toList = _
    rw [codes_app, codes_app, codes_join0 (y :: r)]
    have : (Str.ofString "").cps.toList = [] := by decide +kernel
    rw [this, List.append_nil]
    simp only [List.flatMap_cons]
/-- signs put together -/
theorem join_ok {l : List Str} (h : ∀ x ∈ l, TOk 1 x) : TOk l.length (Str.join (Str.ofString "") l) := by
  refine ⟨?_, fun c hc => ?_⟩
  · rw [str_len, codes_join0]
    induction l with
    | nil => exact Nat.le_refl _
    | cons x r ih =>
      have a := (h x (List.mem_cons_self ..)).1
      rw [str_len] at a
      have b := ih fun y hy => h y (List.mem_cons_of_mem _ hy)
      rw [List.flatMap_cons, List.length_append, List.length_cons]
      omega
  · rw [codes_join0] at hc
    obtain ⟨x, hx, hc⟩ := List.mem_flatMap.mp hc
    exact (h x hx).2 c hc
theorem RepOk.tok {k : Nat} {t : Str} (h : TOk k t) : RepOk (.str t) 0 k := by
  refine RepOk.str h.1 (fun c hc => Nat.lt_of_lt_of_le (h.2 c hc) (by decide)) ?_
  simp only [PyData.canLay0, PyData.strOk, ← Array.all_toList, List.all_eq_true, decide_eq_true_eq]
  exact fun c hc => Nat.lt_of_lt_of_le (h.2 c hc) (by decide)

/-! ### rows -/
/-- what a row bears -/
inductive What where
  | order (i : Int)
  | name (t : Str)
  deriving DecidableEq
def What.v : What → V
  | .order i => .int i
  | .name t => .str t
def What.d : What → PyData
  | .order i => .int i
  | .name t => .str t
theorem What.v_inj {a b : What} (h : a.v = b.v) : a = b := by
  cases a <;> cases b <;> simp_all [What.v]
theorem What.dp {K : PySem.W.Frag} {H : Hp} (x : What) : Dp K H x.v x.d := by
  cases x with
  | order i => exact .int i
  | name t => exact .str t
theorem What.rep {x : What} (h : (∃ i : Int, x = .order i ∧ -4 ≤ i ∧ i ≤ 4) ∨ ∃ t, x = .name t ∧ TOk 8 t) : RepOk x.d 0 8 := by
  rcases h with ⟨i, rfl, h1, h2⟩ | ⟨t, rfl, h⟩
  · exact (RepOk.int (by omega)).mono (Nat.le_refl _) (by omega)
  · exact RepOk.tok h
theorem scal_what (x y : What) : scal x.v y.v = true := by cases x <;> cases y <;> rfl
theorem What.flat (x : What) : flatV x.v = true := by cases x <;> rfl
structure Row where
  m : Int
  l : Str
  w : What
def lines6 : List Str := ["port", "star", "down", "aport", "astar", "up"]
def tubes : List Str := ["down", "up"]
/-- a row as DOC asks -/
structure Row.Ok (r : Row) : Prop where
  m0 : 0 ≤ r.m
  m1 : r.m ≤ 99999
  ln : r.l ∈ lines6
  wh : (r.l ∈ tubes ∧ ∃ t, r.w = .name t ∧ TOk 8 t) ∨ (r.l ∉ tubes ∧ ∃ i, r.w = .order i ∧ -4 ≤ i ∧ i ≤ 4)
theorem lines6_ok : ∀ l ∈ lines6, TOk 8 l := by
  intro l h
  have h2 : l = "port" ∨ l = "star" ∨ l = "down" ∨ l = "aport" ∨ l = "astar" ∨ l = "up" := by simpa [lines6] using h
  rcases h2 with rfl | rfl | rfl | rfl | rfl | rfl <;> exact ⟨by decide +kernel, by decide +kernel⟩
def Row.d (r : Row) : PyData := .tuple [.int r.m, .str r.l, r.w.d]
theorem Row.Ok.rep {r : Row} (h : r.Ok) : RepOk r.d 1 27 := by
  refine (RepOk.tuple (k := 0) (n := 8) fun d hd => ?_).mono (Nat.le_refl _) (by show 3 * 9 ≤ 27; omega)
  have z : d = .int r.m ∨ d = .str r.l ∨ d = r.w.d := by simpa using hd
  rcases z with rfl | rfl | rfl
  · exact (RepOk.int (by have := h.m0; have := h.m1; omega)).mono (Nat.le_refl _) (by omega)
  · exact RepOk.tok (lines6_ok _ h.ln)
  · refine What.rep ?_
    rcases h.wh with ⟨_, t, e, q⟩ | ⟨_, i, e, q1, q2⟩
    · exact .inr ⟨t, e, q⟩
    · exact .inl ⟨i, e, q1, q2⟩

/-- the row r stands at a -/
def RowAt (K : PySem.W.Frag) (H : Hp) (a : Addr) (r : Row) : Prop := SqT K H a [.int r.m, .str r.l, r.w.v]
/-- rows at places -/
inductive RowsAt (K : PySem.W.Frag) (H : Hp) : List Addr → List Row → Prop
  | nil : RowsAt K H [] []
  | cons {a : Addr} {r : Row} {as : List Addr} {rs : List Row} : RowAt K H a r → RowsAt K H as rs → RowsAt K H (a :: as) (r :: rs)
/-- the log rs stands at t -/
def LogAt (K : PySem.W.Frag) (H : Hp) (t : Addr) (rs : List Row) : Prop := ∃ as : List Addr, SqT K H t (as.map V.ref) ∧ RowsAt K H as rs
section
variable {K : PySem.W.Frag} {H H1 : Hp} {t a : Addr} {as : List Addr} {rs : List Row} {r : Row}
theorem RowsAt.length (h : RowsAt K H as rs) : as.length = rs.length := by
  induction h with
  | nil => rfl
  | cons _ _ ih => exact congrArg (· + 1) ih
theorem RowsAt.get (h : RowsAt K H as rs) : ∀ {i : Nat} {r : Row}, rs[i]? = some r → ∃ a, as[i]? = some a ∧ RowAt K H a r := by
  induction h with
  | nil => intro i r e; simp at e
  | cons h1 _ ih =>
    intro i r e
    cases i with
    | zero =>
      simp at e
      subst e
      exact ⟨_, rfl, h1⟩
    | succ i => exact ih (by simpa using e)
theorem RowsAt.get' (h : RowsAt K H as rs) : ∀ {i : Nat} {a : Addr}, as[i]? = some a → ∃ r, rs[i]? = some r ∧ RowAt K H a r := by
  induction h with
  | nil => intro i r e; simp at e
  | cons h1 _ ih =>
    intro i r e
    cases i with
    | zero =>
      simp at e
      subst e
      exact ⟨_, rfl, h1⟩
    | succ i => exact ih (by simpa using e)
theorem RowsAt.snoc (h : RowsAt K H as rs) (h1 : RowAt K H a r) : RowsAt K H (as ++ [a]) (rs ++ [r]) := by
  induction h with
  | nil => exact .cons h1 .nil
  | cons h2 _ ih => exact .cons h2 ih
theorem RowsAt.imp (h : RowsAt K H as rs) (f : ∀ a r, RowAt K H a r → RowAt K H1 a r) : RowsAt K H1 as rs := by
  induction h with
  | nil => exact .nil
  | cons h2 _ ih => exact .cons (f _ _ h2) ih
theorem RowsAt.same (h : RowsAt K H as rs) (s : Same H H1) : RowsAt K H1 as rs := h.imp fun _ _ q => same_seqT s q
theorem seqT_lst {p : Addr} {xs ys : List V} (h : SqT K H a xs) (hp : H p = some (.lst ys)) (b : But p H H1) : SqT K H1 a xs := by
  rcases h with h | h
  · have n : a ≠ p := by
      rcases h with h | ⟨o, h⟩
      · exact ne_of h hp (by intro z; cases z)
      · exact ne_of h hp (by intro z; cases z)
    exact .inl (b.rd n h)
  · exact .inr h
theorem seqT_go {p c : Addr} {n : Nat} {xs : List V} (h : SqT K H a xs) (hp : PenAt H p c n) (b : But p H H1) : SqT K H1 a xs := by
  obtain ⟨_, _, e, _⟩ := hp
  exact seqT_lst h e b
theorem RowsAt.lst {p : Addr} {ys : List V} (h : RowsAt K H as rs) (hp : H p = some (.lst ys)) (b : But p H H1) : RowsAt K H1 as rs := h.imp fun _ _ q => seqT_lst q hp b
theorem RowsAt.go {p c : Addr} {n : Nat} (h : RowsAt K H as rs) (hp : PenAt H p c n) (b : But p H H1) : RowsAt K H1 as rs := by
  obtain ⟨_, _, e, _⟩ := hp
  exact h.lst e b
theorem LogAt.go {p c : Addr} {n : Nat} (h : LogAt K H t rs) (hp : PenAt H p c n) (b : But p H H1) : LogAt K H1 t rs := by
  obtain ⟨as, h1, h2⟩ := h
  obtain ⟨_, _, e, _⟩ := id hp
  exact ⟨as, seqT_lst h1 e b, h2.go hp b⟩
theorem RowsAt.take (h : RowsAt K H as rs) (n : Nat) : RowsAt K H (as.take n) (rs.take n) := by
  induction h generalizing n with
  | nil => simp; exact .nil
  | cons h2 _ ih =>
    cases n with
    | zero => exact .nil
    | succ n => exact .cons h2 (ih n)
theorem RowsAt.drop (h : RowsAt K H as rs) (n : Nat) : RowsAt K H (as.drop n) (rs.drop n) := by
  induction h generalizing n with
  | nil => simp; exact .nil
  | cons h2 h3 ih =>
    cases n with
    | zero => exact .cons h2 h3
    | succ n => exact ih n
theorem LogAt.same (h : LogAt K H t rs) (s : Same H H1) : LogAt K H1 t rs := by
  obtain ⟨as, h1, h2⟩ := h
  exact ⟨as, same_seqT s h1, h2.same s⟩
theorem RowAt.dp (h : RowAt K H a r) : Dp K H (.ref a) r.d := .tup h (.cons (.int _) (.cons (.str _) (.cons r.w.dp .nil)))
theorem RowsAt.dp (h : RowsAt K H as rs) : DpAll K H (as.map V.ref) (rs.map Row.d) := by
  induction h with
  | nil => exact .nil
  | cons h2 _ ih => exact .cons h2.dp ih
theorem LogAt.dp (h : LogAt K H t rs) : Dp K H (.ref t) (.tuple (rs.map Row.d)) := by
  obtain ⟨as, h1, h2⟩ := h
  exact .tup h1 h2.dp
theorem log_rep (h : ∀ r ∈ rs, r.Ok) (l : rs.length ≤ 41) : RepOk (.tuple (rs.map Row.d)) 2 1148 := by
  refine (RepOk.tuple (k := 1) (n := 27) fun d hd => ?_).mono (Nat.le_refl _) ?_
  · obtain ⟨r, hr, rfl⟩ := List.mem_map.mp hd
    exact (h r hr).rep
  · rw [List.length_map]
    omega
end
theorem ints_rep {ns : List Int} {k : Nat} (h : ∀ n ∈ ns, n.natAbs < 2 ^ 398) (l : ns.length ≤ k) : RepOk (.list (ns.map PyData.int)) 1 k := by
  refine (RepOk.list (k := 0) (n := 0) fun d hd => ?_).mono (Nat.le_refl _) ?_
  · obtain ⟨r, hr, rfl⟩ := List.mem_map.mp hd
    exact RepOk.int (h r hr)
  · rw [List.length_map]
    omega
theorem cut_take (xs : List V) (i : Nat) (h : i ≤ xs.length) : cutV xs none (some (i : Int)) = xs.take i := by
  unfold cutV
  rw [HT.sIx_none, HT.sIx_nat, List.drop_zero, Nat.min_eq_left h, Nat.sub_zero]
theorem cut_drop (xs : List V) (i : Nat) : cutV xs (some (i : Int)) none = xs.drop i := by
  unfold cutV
  rw [HT.sIx_none, HT.sIx_nat]
  by_cases h : i ≤ xs.length
  · rw [Nat.min_eq_left h, List.take_of_length_le (by rw [List.length_drop]; exact Nat.le_refl _)]
  · rw [Nat.min_eq_right (by omega), List.drop_length, List.drop_eq_nil_of_le (by omega)]
    simp
theorem cut_not (xs : List V) (i : Nat) (h : i < xs.length) : ¬(HT.sIx xs.length 0 none = 0 ∧ HT.sIx xs.length xs.length (some (i : Int)) = xs.length) := fun z => by
  rw [HT.sIx_nat] at z
  omega
/-! ### the rules that name the written part, with it said: they stand within comprehensions, too -/
section
variable (K : PySem.W.Frag) {X : Cx}
theorem kx_seq (h : X.K = K := by rfl) : IxR X (rIx K) := by
  subst h
  exact ix_seq
theorem kx_list (h : X.K = K := by rfl) : IxR X (rIxL K) := by
  subst h
  exact ix_list
theorem kx_tup (h : X.K = K := by rfl) : IxR X (rIxT K) := by
  subst h
  exact ix_tup
theorem k_slL (h : X.K = K := by rfl) : SlR X (rSlL K) := by
  subst h
  exact sl_list
theorem k_slT (h : X.K = K := by rfl) : SlR X (rSlT K) := by
  subst h
  exact sl_tup
theorem k_slA (h : X.K = K := by rfl) : SlR X (rSlA K) := by
  subst h
  exact sl_tupA
theorem k_in (h : X.K = K := by rfl) : OpR X (compareOp .In) (rIn K false) := by
  subst h
  exact op_in_seq
theorem k_notin (h : X.K = K := by rfl) : OpR X (compareOp .NotIn) (rIn K true) := by
  subst h
  exact op_notIn_seq
def rLen (K : PySem.W.Frag) : List V → Hp → VK → Prop := fun xs H Q => ∃ p ys, xs = [.ref p] ∧ (SqL K H p ys ∨ SqT K H p ys) ∧ Q (.int ys.length) H
theorem k_len (h : X.K = K := by rfl) : CallR X (.builtin "len") (rLen K) := by
  subst h
  exact call_len_seq
theorem k_isi (h : X.K = K := by rfl) : CallR X (.builtin "isinstance") (rIsi K) := by
  subst h
  exact call_isi
theorem k_eqD (hu : X.A.units + 64 < cLine) (h : X.K = K := by rfl) : OpR X (compareOp .Eq) (rEqD K) := by
  subst h
  exact op_eqD hu
theorem k_neD (hu : X.A.units + 64 < cLine) (h : X.K = K := by rfl) : OpR X (compareOp .NotEq) (rNeD K) := by
  subst h
  exact op_neD hu
theorem k_repr (hG : X.A.guards = some []) (hu : X.A.units + 64 < cLine) (h : X.K = K := by rfl) : CallR X (.builtin "repr") (rRepr2 K) := by
  subst h
  exact call_reprD hG hu
def rTupOf (K : PySem.W.Frag) : List V → Hp → VK → Prop := fun xs H Q => ∃ p ys, xs = [.ref p] ∧ ((SqL K H p ys ∧ ∀ l, H l = none → Q (.ref l) (upd H l (.tup ys))) ∨ (SqT K H p ys ∧ Q (.ref p) H))
theorem k_tupOf (h : X.K = K := by rfl) : CallR X (.type "tuple") (rTupOf K) := by
  subst h
  exact call_tuple_of
def rListOf (K : PySem.W.Frag) : List V → Hp → VK → Prop := fun xs H Q => ∃ p ys, xs = [.ref p] ∧ (SqL K H p ys ∨ SqT K H p ys) ∧ ∀ l, H l = none → Q (.ref l) (upd H l (.lst ys))
theorem k_listOf (h : X.K = K := by rfl) : CallR X (.type "list") (rListOf K) := by
  subst h
  exact call_list_of
theorem k_isiT (h : X.K = K := by rfl) : CallR X (.builtin "isinstance") (rIsiT K) := by
  subst h
  exact call_isiT
theorem k_all (hc : X.calm = true) (h : X.K = K := by rfl) : CallR X (.builtin "all") (rAll K) := by
  subst h
  exact cr_all hc
theorem k_any (hc : X.calm = true) (h : X.K = K := by rfl) : CallR X (.builtin "any") (rAny K) := by
  subst h
  exact cr_any hc
theorem k_sorted (h : X.K = K := by rfl) : CallR X (.builtin "sorted") (rSortedI K) := by
  subst h
  exact cr_sortedI
theorem k_catT (h : X.K = K := by rfl) : OpR X (binaryOp .Add) (rCatT K) := by
  subst h
  exact op_catT
theorem k_pgT {es : List Expr} {k : Nat} {t : TGs} {n : Nat} {pos : Pos} (hc : X.calm = true) (h : PGs X es t) (hn : (assignEach es X.env).length = n := by rfl) (hs : (assignEach es X.env).findIdx? (fun p => p.1) = none := by rfl) (hK : X.K = K := by rfl) : PG X (.Tuple es k pos) (gTup K n t) := by
  subst hK
  exact pg_tup hc h hn hs
theorem k_piL {tg l : Expr} {tl : TE} (hl : PE X l tl) (h : X.K = K := by rfl) : PI X tg l (iList K tl) := by
  subst h
  exact pi_list hl
theorem k_piT {tg l : Expr} {tl : TE} (hl : PE X l tl) (h : X.K = K := by rfl) : PI X tg l (iTup K tl) := by
  subst h
  exact pi_tup hl
end
/-! ### lists and tuples alike -/
/-- a list or a tuple is read -/
def SqE (K : PySem.W.Frag) (H : Hp) (a : Addr) (xs : List V) : Prop := SqL K H a xs ∨ SqT K H a xs
def gEither (K : PySem.W.Frag) (n : Nat) (t : TGs) : TG := fun v σ H Q => ∃ a xs, v = .ref a ∧ SqE K H a xs ∧ xs.length = n ∧ t xs σ H Q
/-- x[i], x a list or a tuple -/
def rIxE (K : PySem.W.Frag) : R2 := fun x y H Q => ∃ p xs i v, x = .ref p ∧ y = .int i ∧ SqE K H p xs ∧ atI xs i = some v ∧ Q v H
theorem kx_E (K : PySem.W.Frag) {X : Cx} (hK : X.K = K := by rfl) : IxR X (rIxE K) := by
  subst hK
  rintro value slice pins s σ H x y v u Q I rx ry ⟨p, xs, i, z, e1, e2, hq | hq, e3, q⟩ hs
  · exact ix_list value slice pins s σ H x y v u Q I rx ry ⟨p, xs, i, z, e1, e2, hq, e3, q⟩ hs
  · exact ix_tup value slice pins s σ H x y v u Q I rx ry ⟨p, xs, i, z, e1, e2, hq, e3, q⟩ hs
/-- for x in v, v a name of a list or of a tuple -/
def iEither (K : PySem.W.Frag) (i : Nat) : TI := fun σ H R => ∃ a, σ[i]? = some (some (V.ref a)) ∧ (((∃ xs, SqL K H a xs) ∧ R (Itl K a) H) ∨ ((∃ xs, SqT K H a xs) ∧ R (Itt K a) H))
theorem k_piV (K : PySem.W.Frag) {X : Cx} {tg l : Expr} {i : Nat} (hl : PE X l (tVar i)) (hK : X.K = K := by rfl) : PI X tg l (iEither K i) := by
  subst hK
  constructor
  rintro pins s σ H R I ⟨a, e, ⟨hq, q⟩ | ⟨hq, q⟩⟩
  · exact (pi_list hl).run pins s σ H R I ⟨_, e, a, rfl, hq, q⟩
  · exact (pi_tup hl).run pins s σ H R I ⟨_, e, a, rfl, hq, q⟩
section
variable {X : Cx} {K : PySem.W.Frag} {H H1 : Hp} {a p : Addr} {xs : List V}
theorem SqE.same (h : SqE K H a xs) (s : Same H H1) : SqE K H1 a xs := h.imp (same_seqL s) (same_seqT s)
theorem k_pgE (K : PySem.W.Frag) {es : List Expr} {k : Nat} {t : TGs} {n : Nat} {pos : Pos} (hc : X.calm = true) (h : PGs X es t) (hn : (assignEach es X.env).length = n := by rfl) (hs : (assignEach es X.env).findIdx? (fun p => p.1) = none := by rfl)
    (hK : X.K = K := by rfl) : PG X (.Tuple es k pos) (gEither K n t) := by
  subst hK
  constructor
  rintro pins s σ H v u Q I r ⟨a, xs, e1, hq | hq, hl, hw⟩
  · exact (pg_unl hc h hn hs).run pins s σ H v u Q I r ⟨a, xs, e1, hq, hl, hw⟩
  · exact (pg_tup hc h hn hs).run pins s σ H v u Q I r ⟨a, xs, e1, hq, hl, hw⟩
theorem seqT_ty (h : SqT K H a xs) : TyX K H (.ref a) (.type "tuple") := by
  rcases h with (h | ⟨o, h⟩) | ⟨o, its, n, e, c, _⟩
  · exact .base (.tup h)
  · exact .fTuple h
  · exact .kTuple e c
theorem seqL_ty (h : SqL K H a xs) : TyX K H (.ref a) (.type "list") := by
  rcases h with (h | ⟨o, h⟩) | ⟨o, its, n, e, c, _⟩
  · exact .base (.lst h)
  · exact .base (.frz h)
  · exact .kList e c
end
/-! ### defs with defaults -/
section
variable {P : Program} {w : World} {K : PySem.W.Frag} {mg : Str → Option Value} {base : Heap} {x qual : Str} {params : Arguments} {body : List Stmt} {scope : Scope} {dvs : List V} {f : Addr} {fd : FuncData} {ps : List Str}
theorem FunD_okN {N : List Str} {k : Nat} {sp : Sp} (F : FunD K x qual params body scope dvs [] f fd) (S : FnScope N ps scope) (len : ∀ vs H Q E, sp vs H Q E → vs.length = ps.length)
    (hb : ∀ (cdv : Value) (A : Around) (outer : List Env) (s : Shared) (H : Hp) (vs : List V) (Q : VK) (E : XK), Room k (A.deeper (envOfC qual scope s.heap.objs.size f cdv)) → sp vs H Q E →
      ∃ t, PSs (cxOf CX0 P w K mg base N qual scope f cdv A outer s H E).nox body t ∧ t { nx := fun _ H' => Q .non H', rt := Q } (start N vs) H) : FnOk P w K mg base CX0 (k + 1) f fd ps sp :=
  F.ok S len fun cdv A outer s H vs Q E hr h => by
    obtain ⟨t, h1, h2⟩ := hb cdv A outer s H vs Q E hr h
    exact ⟨t, h1.nox, h2⟩
theorem FunD_mk {oc : Value} {od an : Option Addr} {T : Addr} {kV doc pm cdv ct : Value} {osl : Array (Option Value)} {tc : Value} {td : Option Addr} {its : Array Value} {n : Nat} {tsl : Array (Option Value)}
    (l : K.lookup f = some ⟨oc, od, .func (PySem.W.fnOf x qual params body scope (.ref T) kV doc pm an cdv ct), osl⟩) (c : PySem.W.codeIn K cdv qual = true) (k : PySem.W.keepIn K (.ref f) = true)
    (lt : K.lookup T = some ⟨tc, td, .seq its n, tsl⟩) (v : Vals dvs its.toList) (hd : dvs ≠ []) : FunD K x qual params body scope dvs [] f (PySem.W.fnOf x qual params body scope (.ref T) kV doc pm an cdv ct) :=
  ⟨⟨oc, od, _, kV, doc, pm, an, cdv, ct, osl, rfl, l, c, .inr ⟨hd, T, _, its.toList, n, rfl, lt, by simp, v⟩, .inl rfl⟩, k⟩
/-- keywords, the defaults filling up what lacks -/
theorem FunD_kb (F : FunD K x qual params body scope dvs [] f fd) (hd : dvs ≠ []) (ks : List Str) (g : List Value → List Value → List Value → List Value) (gV : List V → List V → List V → List V)
    (rel : ∀ {vs ds zs : List V} {us its ws : List Value}, Vals vs us → Vals ds its → Vals zs ws → Vals (gV vs ds zs) (g us its ws))
    (h : ∀ (T : Addr) (kV doc pm : Value) (an : Option Addr) (cdv ct : Value) (us its ws : List Value), its.length = dvs.length → (g us its ws).length = ps.length →
      ∃ k, bindArgs (PySem.W.fnOf x qual params body scope (.ref T) kV doc pm an cdv ct) ⟨us, ks.zip ws⟩ = seqItems? (.ref T) >>= k ∧ k (some its.toArray) = pure (ps.zip (g us its ws))) :
    ∃ its : List Value, KBinds K fd ps ks (fun us ws => g us its ws) (fun vs zs => gV vs dvs zs) := by
  obtain ⟨oc, od, dV, kV, doc, pm, an, cdv, ct, osl, e, lk, hcd, hD, _⟩ := F.ex
  subst e
  rcases hD with ⟨e, _⟩ | ⟨_, T, o, its, m, rfl, lT, oT, rT⟩
  · exact absurd e hd
  · refine ⟨its, fun s us ws X hl => ?_, fun r1 r2 => rel r1 rT r2⟩
    obtain ⟨k, e1, e2⟩ := h T kV doc pm an cdv ct us its ws rT.length.symm hl
    refine BindsTo.of_looks fun M => ?_
    rw [e1]
    exact looks_items X lT oT (.of_pure e2)
end
end RO

namespace RO
open PySem PySem.Spec PyProof.Rows L2

/-! ### dicts of at most one pair, as data -/
/-- a number or a text, as data -/
inductive Sc : V → PyData → Prop
  | int (i : Int) : Sc (.int i) (.int i)
  | str (t : Str) : Sc (.str t) (.str t)
/-- data, or a small dict -/
inductive Dq (K : PySem.W.Frag) (H : Hp) : V → PyData → Prop
  | dp {v : V} {d : PyData} {k n : Nat} : Dp K H v d → RepOk d k n → k ≤ 40 → n ≤ 40000 → Dq K H v d
  | d0 {a : Addr} : H a = some (.dK []) → Dq K H (.ref a) (.dict [])
  | d1 {a : Addr} {t : Str} {x : V} {e : PyData} {n : Nat} : H a = some (.dK [(.inr t, x)]) → Sc x e → RepOk e 0 n → n ≤ 1000 → TOk 8 t → Dq K H (.ref a) (.dict [(.str t, e)])
theorem Dq.same {K : PySem.W.Frag} {H H1 : Hp} {v : V} {d : PyData} (h : Dq K H v d) (s : Same H H1) : Dq K H1 v d := by
  cases h with
  | dp h1 h2 h3 h4 => exact .dp (dp_same s _ _ h1) h2 h3 h4
  | d0 e => exact .d0 (s _ _ e)
  | d1 e a b c l => exact .d1 (s _ _ e) a b c l
theorem shown_short {d : PyData} {k n : Nat} (h : RepOk d k n) (hn : n ≤ 1000) : d.shown.length ≤ 402 * 1001 := by
  have e := PyData.shown_le_bulk 400 (by decide) d h.lv
  have b := h.bk
  have : (400 + 2) * d.bulk ≤ 402 * 1000 := Nat.mul_le_mul (by decide) (by omega)
  omega
theorem str_app (a b : Str) : (a ++ b).length = a.length + b.length := by
  rw [str_len, str_len, str_len, codes_app, List.length_append]
/-- repr(x), x data or a small dict -/
def rRepr4 (K : PySem.W.Frag) : List V → Hp → VK → Prop := fun xs H Q => ∃ v d, xs = [v] ∧ Dq K H v d ∧ Q (.str d.shown) H
theorem sys_ne {a : Addr} (h : (a == sysModules) = false) : a ≠ sysModules := fun z => by
  rw [z] at h
  simp at h
theorem call_repr4 {X : Cx} (hG : X.A.guards = some []) (hu : X.A.units + 64 < cLine) : CallR X (.builtin "repr") (rRepr4 X.K) := by
  intro pins s σ H xs us Q I r h
  obtain ⟨v, d, e, hd, q⟩ := h
  cases hd with
  | dp h1 h2 h3 h4 => exact call_reprD hG hu pins s σ H xs us Q I r ⟨v, d, _, _, e, h1, h2, h3, h4, q⟩
  | @d0 a ha =>
    subst e
    rw [Vals.ref1 r]
    have fin : ∀ (h' : Heap) (u : Tok) (tk : Nat), (∀ b o, s.heap.get? b = some o → h'.get? b = some o) → EP X pins σ Q (.str (PyData.dict []).shown u) { s with heap := h', toks := tk } :=
      fun h' u tk hk => ⟨.str (PyData.dict []).shown, H, I.un (Un.kept hk) (I.hok.kept hk), ⟨u, rfl⟩, q⟩
    obtain ⟨_, hs, vs, rel, o, es, ep, ho, hx, hdat, hk, hp, _⟩ := dk_of I.hok ha
    cases rel
    have he : es.toList = [] := by
      have := hp.length
      exact List.eq_nil_of_length_eq_zero this
    have rd : Reads s.heap (.ref a) (.dict []) (a :: [] ++ []) := Reads.dict ho hx.1 hdat (by rw [he]; exact .nil) (by rw [he]; exact .nil)
    exact repr_of_reads' rd (by decide) (fun _ => by simpa using Ne.symm (sys_ne hs)) hG (by show _ + (1 + 1) < _; omega) (fun _ _ z => z) fin (by decide +kernel)
  | @d1 a t x e' n ha hsc hr hn ht =>
    subst e
    rw [Vals.ref1 r]
    have hts := RepOk.tok ht
    have hsh : (PyData.dict [(.str t, e')]).showable = true := by
      simp [PyData.showable, PyData.showableKv, hr.sh]
    have hdp : (PyData.dict [(.str t, e')]).depth ≤ 1 := by
      have := hr.dp
      simp [PyData.depth, PyData.depthKv]
      omega
    have hlen : (PyData.dict [(.str t, e')]).shown.length ≤ sizeLine := by
      have l1 := shown_short hr hn
      have l2 := shown_short hts (by decide)
      rw [PyData.shown_dict]
      simp only [PyData.shownKv, Str.join]
      simp only [str_app]
      have c1 : ("{" : Str).length = 1 := by decide +kernel
      have c2 : ("}" : Str).length = 1 := by decide +kernel
      have c3 : (": " : Str).length = 2 := by decide +kernel
      rw [c1, c2, c3, sizeLine_eq]
      omega
    have fin : ∀ (h' : Heap) (u : Tok) (tk : Nat), (∀ b o, s.heap.get? b = some o → h'.get? b = some o) → EP X pins σ Q (.str (PyData.dict [(.str t, e')]).shown u) { s with heap := h', toks := tk } :=
      fun h' u tk hk => ⟨.str (PyData.dict [(.str t, e')]).shown, H, I.un (Un.kept hk) (I.hok.kept hk), ⟨u, rfl⟩, q⟩
    obtain ⟨_, hs, vs, rel, o, es, ep, ho, hx, hdat, hk, hp, _⟩ := dk_of I.hok ha
    cases rel with
    | @cons _ qv _ _ r1 r2 =>
      cases r2
      obtain ⟨er, rx⟩ := r1
      generalize hes : es.toList = el at hp
      cases hp with
      | @cons en _ _ _ p1 p2 p3 =>
        cases p3
        obtain ⟨_, _, z, _⟩ | ⟨y, tk, z, ek⟩ := keyIs_shape p1
        · rw [← er] at z
          cases z
        · rw [← er] at z
          cases z
          have rv : Reads s.heap en.val e' [] := by
            rw [p2]
            cases hsc with
            | int i =>
              obtain ⟨tt, ee⟩ := (show ∃ tt, qv.2 = Value.int i tt from rx)
              rw [ee]
              exact .int i tt
            | str y =>
              obtain ⟨tt, ee⟩ := (show ∃ tt, qv.2 = Value.str y tt from rx)
              rw [ee]
              exact .str y tt
          have rk : Reads s.heap en.key (.str t) [] := by
            rw [ek]
            exact .str t tk
          have rd : Reads s.heap (.ref a) (.dict [(.str t, e')]) (a :: ([] ++ []) ++ ([] ++ [])) := Reads.dict ho hx.1 hdat (by rw [hes]; exact .cons rk .nil) (by rw [hes]; exact .cons rv .nil)
          exact repr_of_reads' rd hsh (fun _ => by simpa using Ne.symm (sys_ne hs)) hG (by omega) (fun _ _ z => z) fin hlen
/-! ### texts of numbers, letters -/
theorem int_tok {i : Int} {k : Nat} (h : i.natAbs < 2 ^ k) (hk : 0 < k) : TOk (k + 1) (toString i : String) := by
  refine ⟨?_, fun c hc => ?_⟩
  · have l : i.natAbs.log2 < k := by
      by_cases z : i.natAbs = 0
      · rw [z]
        have : Nat.log2 0 = 0 := by decide
        omega
      · exact (Nat.log2_lt z).mpr h
    have e := int_text_length_le (a := i) hk l
    have e2 : (Str.ofString (toString i)).length = (toString i).length := PySem.ofString_length _
    show (Str.ofString (toString i)).length ≤ k + 1
    omega
  · by_cases z : c ≠ 45 ∧ (c < 48 ∨ 57 < c)
    · exact absurd hc (int_text_free' c z i)
    · omega
def rStrOf : List V → Hp → VK → Prop := fun xs H Q => (∃ i, xs = [.int i] ∧ i.natAbs.log2 < 1920 ∧ Q (.str (toString i : String)) H) ∨ ∃ a, xs = [.str a] ∧ Q (.str a) H
theorem k_strOf {X : Cx} : CallR X (.type "str") rStrOf := by
  rintro pins s σ H xs us Q I r (h | h)
  · exact call_str_int pins s σ H xs us Q I r h
  · exact SkE.call_str_str pins s σ H xs us Q I r h
theorem k_repr4 (K : PySem.W.Frag) {X : Cx} (hG : X.A.guards = some []) (hu : X.A.units + 64 < cLine) (h : X.K = K := by rfl) : CallR X (.builtin "repr") (rRepr4 K) := by
  subst h
  exact call_repr4 hG hu
def CPowW (i j : Int) : Prop := 0 ≤ j ∧ ((Builtin.Int.intBits i : Nat) : Int) * j ≤ 134217728
theorem op_powW {X : Cx} : OpR X (binaryOp .Pow) (rI CPowW fun i j => .int (i ^ j.toNat)) := opI fun _ _ _ _ _ _ _ hc q => pow_int hc.1 hc.2 q
def letter (c : Nat) : Bool := decide (97 ≤ c) && decide (c ≤ 122)
theorem letter_not : ∀ c, c < 128 → (!(!(Builtin.Str.occurrences (Str.ofString "abcdefghijklmnopqrstuvwxyz") ⟨#[c]⟩ 0 (Str.ofString "abcdefghijklmnopqrstuvwxyz").length 1).isEmpty)) = !letter c := by decide +kernel
end RO

namespace RO
open PySem PySem.Spec PyProof.Rows L2

/-! ### set(xs), xs a list of numbers -/
/-- an empty set's object -/
def emptySet (w : World) : Obj := { cls := .type "set", dict := none, data := .set #[] 0 (.fresh 0 0 (!w.params.followText "set-order")) }
section
variable {P : Program} {w : World} {A : Around} {E : Value → Shared → Prop} {s : Shared}
/-- set(v): the empty set, and what its start makes of it -/
theorem set_call {v : Value} {Q : Value → Shared → Prop} {G : Shared → Prop}
    (start : wpAny (model P w) A.in1.in1 (Builtin.«set.__init__» ⟨[.ref s.heap.objs.size, v], []⟩)
      (fun fin s' => match fin with
        | .done f => wants (fun r s₂ => r = .none ∧ G s₂) E (.ok f) s'
        | .again c' => c'.quiet = true ∧ codeAny (model P w) A.in1 c' (wants (fun r s₂ => r = .none ∧ G s₂) E) s')
      (fun e s' => wants (fun r s₂ => r = .none ∧ G s₂) E (.error e) s') { s with heap := s.heap.push (emptySet w) })
    (fin : ∀ s', G s' → Q (.ref s.heap.objs.size) s') : wpAny (model P w) A (call (.type "set") [v]) Q E s := by
  have lk := F.called_set.init.lookup
  have bd := F.called_set.init.bind (.ref s.heap.objs.size)
  have nt := F.called_set.notType
  have cc := F.called_set.canCreate
  have tc := F.typeCall_set_1 v
  have md := F.called_set.made
  have sb := F.called_set.sub
  obtain ⟨c, tl, mro⟩ := F.called_set.mro
  refine wpAny_call (codeAny_of_tree ?_)
  show wpAny _ _ (callAny (.type "set") _) _ _ _
  refine wpAny_pure ⟨Code.quiet_builtin _ (by decide +kernel), codeAny_builtin F.entry_type_call ?_⟩
  rw [Around.under_plain (weight_type_call_type "set" [v] []) rfl]
  repeat (any_goals (first | assumption | wp_step))
  refine codeAny_mono (code_set_led1 v (E := E) (Q₁ := fun obj t => obj = .ref s.heap.objs.size ∧ t = { s with heap := s.heap.push (emptySet w) }) ⟨rfl, rfl⟩) fun r t hr => ?_
  cases r with
  | error e => exact hr
  | ok fl =>
    cases fl with
    | ret obj =>
      obtain ⟨rfl, rfl⟩ := hr
      have ty : Shared.TypeIs { s with heap := s.heap.push (emptySet w) } (.ref s.heap.objs.size) "set" := ⟨_, Heap.get?_push_size _ rfl, rfl⟩
      repeat (any_goals (first | assumption | wp_step))
      refine codeAny_mono (codeAny_call_builtin F.called_set.init.plain F.entry_set_init (check_set_init_1 ty start)) fun r2 t2 h2 => ?_
      cases r2 with
      | error e => exact h2
      | ok fl2 =>
        cases fl2 with
        | ret z =>
          obtain ⟨rfl, g⟩ := h2
          have q := fin _ g
          repeat (any_goals (first | assumption | wp_step))
        | _ => exact h2.elim
    | _ => exact hr.elim
/-- of a list of numbers -/
theorem set_ints {l : Addr} {items : Array Value} {ns : List Int} {Q : Value → Shared → Prop} (hh : A.handled = none) (hl : s.heap.IsList l items) (hit : IntsAre items.toList ns) (hb : ns.length + 1 < scanBound)
    (h : ∀ (h' : Heap) (tk n : Nat), SetR w h' s.heap.objs.size (fun j => decide (j ∈ ns)) n → n ≤ ns.length → (∀ b o, s.heap.get? b = some o → h'.get? b = some o) → Q (.ref s.heap.objs.size) { s with heap := h', toks := tk }) :
    wpAny (model P w) A (call (.type "set") [.ref l]) Q E s := by
  have size : items.size = ns.length := by
    rw [← Array.length_toList]
    exact IntsAre.length hit
  have vals : ∀ (i : Nat) (v : Value), items[i]? = some v → ∃ k t, ns[i]? = some k ∧ v = .int k t := fun i v hv => by
    have lt : i < ns.length := size ▸ (Array.getElem?_eq_some_iff.mp hv).1
    obtain ⟨t, e⟩ := IntsAre.int_at hit i v (by rw [Array.getElem?_toList]; exact hv)
    refine ⟨ns[i], t, List.getElem?_eq_getElem lt, ?_⟩
    rw [e, List.getD_eq_getElem?_getD, List.getElem?_eq_getElem lt]
    rfl
  refine set_call (G := fun s2 => ∃ h' tk n, s2 = { s with heap := h', toks := tk } ∧ SetR w h' s.heap.objs.size (fun j => decide (j ∈ ns)) n ∧ n ≤ ns.length ∧ ∀ b o, s.heap.get? b = some o → h'.get? b = some o) ?_ ?_
  · have l1 : (s.heap.push (emptySet w)).IsList l items := hl.push _
    have lS : l < s.heap.objs.size := by
      obtain ⟨_, e, _⟩ := hl
      exact Heap.lt_size e
    have z1 : (s.heap.push (emptySet w)).objs.size = s.heap.objs.size + 1 := Heap.size_push ..
    obtain ⟨⟨oc, od, odt, osl⟩, hol, hcl, nl, hdl⟩ := id l1
    simp only at hcl hdl
    subst hcl hdl
    have n1 := F.sub_list_set
    have n2 := F.sub_list_frozenset
    have n3 : (Value.type "list" == Value.type "dict") = false := by decide
    unfold Builtin.«set.__init__» noKeywords Builtin.Frozenset.updateFrom
    generalize hPI : pyIter = PI
    wp_walk
    subst hPI
    refine wpAny_pyIter_list l1 ?_
    refine wpAny_bind (wpAny_runValue ?_)
    have apart : l ≠ (s.heap.push (emptySet w)).objs.size := by
      rw [z1]
      exact Nat.ne_of_lt (Nat.lt_succ_of_lt lS)
    have S0 : (s.heap.push (emptySet w)).get? s.heap.objs.size = some (emptySet w) := Heap.get?_push_size _ rfl
    have out : s.heap.objs.size ∉ [(s.heap.push (emptySet w)).objs.size, l] := by
      simp only [List.mem_cons, List.not_mem_nil, or_false, not_or]
      exact ⟨by rw [z1]; exact Nat.ne_of_lt (Nat.lt_succ_self _), Nat.ne_of_gt lS⟩
    refine set_update_ints ((Walks.list (by simp [hh]) _ l apart items).toS) s.heap.objs.size out ns size hb vals (items.size - 0) 0 _ (by omega) (Nat.zero_le _)
      ⟨⟨_, Heap.get?_push_size _ rfl, rfl, rfl⟩, l1.push _⟩ ⟨0, Nat.le_refl 0, setR_new_at (Heap.get?_push_of_some _ S0)⟩ fun s3 n mv hn R => ?_
    obtain ⟨h', g', d', tk', o'⟩ := s3
    have e1 : g' = s.gens := mv.gens
    have e2 : d' = s.drawn := mv.drawn
    have e3 : o' = s.os := mv.os
    subst e1 e2 e3
    refine wpAny_pure (wpAny_pure ⟨rfl, h', tk', n, rfl, R, by omega, fun b o e => ?_⟩)
    have lt := Heap.lt_size e
    exact mv.heap b o (by simp only [List.mem_cons, List.not_mem_nil, or_false, not_or]; exact ⟨Nat.ne_of_lt lt, by rw [z1]; exact Nat.ne_of_lt (Nat.lt_succ_of_lt lt)⟩) (Heap.get?_push_of_some _ (Heap.get?_push_of_some _ e))
  · rintro s2 ⟨h', tk, n, rfl, R, hn, keep⟩
    exact h h' tk n R hn keep
end
section
variable {X : Cx}
/-- set(xs) by values -/
def rSetI (K : PySem.W.Frag) (w : World) : List V → Hp → VK → Prop := fun vs H Q => ∃ (a : Addr) (ns : List Int), vs = [V.ref a] ∧ SqL K H a (ns.map V.int) ∧ ns.length ≤ 1000 ∧
  ∀ p n, H p = none → n ≤ ns.length → Q (.ref p) (upd H p (SetO w p (fun j => decide (j ∈ ns)) n))
theorem cr_setI (hc : X.calm = true) : CallR X (.type "set") (rSetI X.K X.w) := by
  intro pins s σ H vs us Q I r h
  obtain ⟨a, ns, rfl, hs, hl, q⟩ := h
  obtain ⟨its, rv, p, hz⟩ := I.list hs
  rw [Vals.ref1 r]
  have lim : ns.length + 1 < scanBound := Nat.lt_of_le_of_lt (Nat.succ_le_succ hl) (by decide)
  refine set_ints (I.ok.hd hc) p.isList rv.ints lim fun h' tk n R hn keep => ?_
  have fresh : H s.heap.objs.size = none := I.hok.fresh (Nat.le_refl _)
  exact ⟨.ref _, _, I.laid (t' := tk) keep (Nat.le_refl _) (setO_new R), rfl, q _ n fresh hn⟩
end
end RO

namespace RO
open PySem PySem.Spec PyProof.Rows L2 PpSet

/-! ### {k for x in xs if ..}, k a number -/
section
variable {X : Cx}
/-- one turn's end: k joins the set at D -/
def Joins (w : World) (D : Addr) (Nx : Hp → Prop) : VK := fun y H => ∃ (k : Int) (S : Int → Bool) (n : Nat), y = .int k ∧ H D = some (SetO w D S n) ∧ n + 1 < scanBound ∧ Nx (upd H D (SetO w D (fun j => S j || decide (j = k)) (if S k = true then n else n + 1)))
def tScI (w : World) (wi : TI) (g : TG) (tt : TT) (te : TE) (vs : List Nat) : TE := fun σ H Q => wi σ H fun J H1 => ∀ D, H1 D = none → ∃ W : Nat → Nat → Hp → Prop, (∃ m, W 0 m (upd H1 D (SetO w D (fun _ => false) 0))) ∧ ∀ i m H, W i m H →
  (J.stop i H ∧ Q (.ref D) H) ∨ (J.go i H ∧ ∃ Nx : Hp → Prop, (∀ H', Nx H' → ∃ m', m' < m ∧ W (i + 1) m' H') ∧ ∀ x H', J.yld i H x H' → g x (wipe σ vs) H' fun σ2 H2 => wipe σ2 vs = wipe σ vs ∧ tt σ2 H2 fun b H3 =>
    if b = true then te σ2 H3 (Joins w D Nx) else Nx H3)
theorem pe_scI {elt tg iter : Expr} {ifs : List Expr} {scope : Scope} {own : List (PySem.Str × Nat)} {pos : Pos} {wi : TI} {g : TG} {tt : TT} {te : TE} (hc : X.calm = true) (hN : X.N.Nodup) (hi : PI X tg iter wi) (ok : BlkOk X.N X.env.scope scope own)
    (hg : ∀ (s : Shared) (H : Hp) (C : Addr) (cl : List (PySem.Str × Addr)) (fp : List Addr), PG (X.blk s H scope (compEnvC scope cl C X.env) fp) tg g)
    (ht : ∀ (s : Shared) (H : Hp) (C : Addr) (cl : List (PySem.Str × Addr)) (fp : List Addr), PTs (X.blk s H scope (compEnvC scope cl C X.env) fp) ifs tt)
    (he : ∀ (s : Shared) (H : Hp) (C : Addr) (cl : List (PySem.Str × Addr)) (fp : List Addr), PE (X.blk s H scope (compEnvC scope cl C X.env) fp) elt te) (hs : ∀ x, foldedSetIterable iter X.env x = pure x := by intro _; rfl) :
    PE X (.SetComp elt [⟨tg, iter, ifs, 0⟩] scope pos) (tScI X.w wi g tt te (own.map (·.2))) := by
  constructor
  intro pins s σ H Q I h
  rw [eval_SetComp]
  have cells : ∀ y ∈ scope.names, y.2 = .free → ∃ c, X.env.cells.lookup y.1 = some c := fun y hy e =>
    (ok.free y hy e).elim (fun k => I.ok.has _ (.inl k)) fun k => I.ok.has _ (.inr k)
  apply wpAny_comprehension_free (use := none) rfl hs (closure_ok cells) ok.kind (fun y hy e => by rw [ok.uniq y hy, e])
  apply thn (hi.run pins s σ H _ I h)
  intro xv s1 hx
  apply thn hx
  rintro _ s2 ⟨it, fp, tn, J, H2, rfl, I2, T, at2, free2, q⟩
  apply newSet_ok
  apply newEnv_comp
  have below : ∀ b ∈ fp, b < s2.heap.objs.size := fun b hb => (T.obj _ _ at2 b hb).elim fun o e => Heap.lt_size e.1
  have fresh : H2 s2.heap.objs.size = none := I2.hok.fresh (Nat.le_refl _)
  obtain ⟨W, ⟨m0, start⟩, turn⟩ := q _ fresh
  have I3 : Inv X pins σ (upd H2 s2.heap.objs.size (SetO X.w s2.heap.objs.size (fun _ => false) 0)) { s2 with heap := s2.heap.push (emptySet X.w) } :=
    I2.laid (t' := s2.toks) (fun _ _ e => Heap.get?_push_of_some _ e) (Nat.le_refl _) (setO_new (setR_fresh X.w))
  have at3 : tn 0 (s2.heap.push (emptySet X.w)) := T.keep _ _ _ at2 fun _ _ _ e => Heap.get?_push_of_some _ e
  have ok3 : ∀ b ∈ fp, FpOk X pins (upd H2 s2.heap.objs.size (SetO X.w s2.heap.objs.size (fun _ => false) 0)) b ∧ b < (s2.heap.push (emptySet X.w)).objs.size := fun b hb =>
    ⟨⟨by rw [upd_ne (Nat.ne_of_lt (below b hb))]; exact (free2 b hb).1, (free2 b hb).2⟩, by rw [Heap.size_push]; exact Nat.lt_succ_of_lt (below b hb)⟩
  generalize s2.heap.objs.size = D at *
  generalize upd H2 D (SetO X.w D (fun _ => false) 0) = H3 at *
  suffices key : ∀ s3 : Shared, s3 = { s2 with heap := s2.heap.push (emptySet X.w) } →
      codeAny (model X.prog X.w) X.A (.compStart (.SetComp elt [⟨tg, iter, ifs, 0⟩] scope pos) 0 (.ref it) (.ref D) (compEnvC scope (cellsFrom (s3.heap.objs.size + 1) scope.names (cloFrom X.env.cells scope.names [])) s3.heap.objs.size X.env))
        (compPost (model X.prog X.w) X.A X.xe none (EP X pins σ Q) (.ref D) s3.heap.objs.size) { s3 with heap := pushCells (s3.heap.push { cls := .type "dict", data := .dict #[] }) scope.names } from key _ rfl
  intro s3 es3
  have eh : s3.heap = s2.heap.push (emptySet X.w) := by rw [es3]
  rw [← eh] at at3 ok3
  rw [← es3] at I3
  have I4 := block_start I3 ok hN ok3
  have pg := hg s3 H3 s3.heap.objs.size (cellsFrom (s3.heap.objs.size + 1) scope.names (cloFrom X.env.cells scope.names [])) fp
  have pt := ht s3 H3 s3.heap.objs.size (cellsFrom (s3.heap.objs.size + 1) scope.names (cloFrom X.env.cells scope.names [])) fp
  have pe := he s3 H3 s3.heap.objs.size (cellsFrom (s3.heap.objs.size + 1) scope.names (cloFrom X.env.cells scope.names [])) fp
  have locals : (compEnvC scope (cellsFrom (s3.heap.objs.size + 1) scope.names (cloFrom X.env.cells scope.names [])) s3.heap.objs.size X.env).locals = s3.heap.objs.size := rfl
  generalize compEnvC scope (cellsFrom (s3.heap.objs.size + 1) scope.names (cloFrom X.env.cells scope.names [])) s3.heap.objs.size X.env = ce at *
  have at4 : tn 0 ({ s3 with heap := pushCells (s3.heap.push { cls := .type "dict", data := .dict #[] }) scope.names } : Shared).heap := T.keep _ _ _ at3 fun b _ o e => pushCells_keeps _ _ _ _ (Heap.get?_push_of_some _ e)
  generalize ({ s3 with heap := pushCells (s3.heap.push { cls := .type "dict", data := .dict #[] }) scope.names } : Shared) = s4 at *
  let B := X.blk s3 H3 scope ce fp
  have stay : ∀ (σ' : L2.St) (H' : Hp) (s' : Shared), Inv B [] σ' H' s' → (∀ b ∈ fp, H' b = none) → ∀ b ∈ fp, FpOk B [] H' b := fun σ' H' s' J' free b hb =>
    ⟨free b hb, (J'.ok.exf b hb).1, J'.ok.exfs b hb, .inl hb, (J'.ok.exf b hb).2, fun p hp => nomatch (show p ∈ ([] : List (Addr × Obj)) from hp)⟩
  have loop : codeAny (model X.prog X.w) X.A (.compLoop (.SetComp elt [⟨tg, iter, ifs, 0⟩] scope pos) 0 (.ref it) (.ref D) ce) (compPost (model X.prog X.w) X.A X.xe none (EP X pins σ Q) (.ref D) s3.heap.objs.size) s4 := by
    refine compLoopS_any (fun n s' => ∃ i H', Inv B [] (wipe σ (own.map (·.2))) H' s' ∧ tn i s'.heap ∧ (∀ b ∈ fp, H' b = none) ∧ W i n H') ?_ m0 ⟨0, H3, I4, at4, fun b hb => (ok3 b hb).1.1, start⟩
    rintro n s5 ⟨i, H5, I5, at5, free5, w5⟩
    rcases turn i n H5 w5 with ⟨stop, fin⟩ | ⟨go, Nx, less, step⟩
    · apply thnF (T.done B rfl rfl rfl hc i [] s5 _ H5 (fun _ _ => False) I5 (stay _ _ _ I5 free5) at5 stop)
      rintro r s6 ⟨rfl, I6⟩
      have back : Inv X pins σ H5 s6 := I3.call' (ch := fp) I6.os I6.base I6.hok I6.bare fun b hb => ⟨(ok3 b hb).1.2.2.2.1, (ok3 b hb).1.2.1, (ok3 b hb).1.2.2.2.2.1, (ok3 b hb).1.2.2.2.2.2⟩
      have free : H5 s3.heap.objs.size = none := locals ▸ (show H5 ce.locals = none from I6.free)
      obtain ⟨m, hn, _⟩ := I6.loc
      have hn : s6.heap.Ns s3.heap.objs.size m := locals ▸ (show s6.heap.Ns ce.locals m from hn)
      obtain ⟨f0, f1, f2, f3, f4, f5⟩ := I3.fpOk (Nat.le_refl _) free
      exact ⟨m, hn, fun h'' sb => ⟨.ref D, H5, back.turned (t' := s6.toks) (fun b o hb e => (sb.2 b hb).trans e) f0 f1 f3 f4 f5, rfl, fin⟩⟩
    · apply thnF (T.item B rfl rfl rfl hc i [] s5 _ H5 (fun _ _ => False) I5 (stay _ _ _ I5 free5) at5 go)
      rintro r s6 ⟨u, rfl, h6⟩
      apply thnF h6
      rintro _ s7 ⟨x, H7, I7, r7, y7, at7, free7⟩
      apply thnF (pg.run _ s7 _ H7 x u _ (I7.pinned (stay _ _ _ I7 free7) (T.obj _ _ at7)) r7 (step x H7 y7))
      rintro _ s8 ⟨σ8, H8, I8, wiped, q8⟩
      apply thnF (pt.run _ s8 σ8 H8 _ I8 q8)
      rintro b s9 ⟨H9, I9, q9⟩
      have next : ∀ (s' : Shared) (H' : Hp), Inv B ([] ++ pinsAt fp s7.heap) σ8 H' s' → Nx H' → ∃ m, m < n ∧ ∃ i H', Inv B [] (wipe σ (own.map (·.2))) H' s' ∧ tn i s'.heap ∧ (∀ b ∈ fp, H' b = none) ∧ W i m H' := fun s' H' J' nx => by
        obtain ⟨m', lt, w'⟩ := less H' nx
        have pin : ∀ b ∈ fp, ∀ o, s7.heap.get? b = some o → s'.heap.get? b = some o ∧ H' b = none := fun b hb o e =>
          have z := J'.pin (b, o) (List.mem_append_right _ (List.mem_append_right _ (mem_pinsAt hb e)))
          ⟨z.1, z.2.1⟩
        refine ⟨m', lt, i + 1, H', (J'.unpinned (pins := [])).weak (by rw [← wiped, wipe_length]) (fun j v e => ?_), T.keep _ _ _ at7 fun b hb o e => (pin b hb o e).1, fun b hb => ?_, w'⟩
        · rw [← wiped] at e
          exact (wipe_some e).1
        · obtain ⟨o, e, _⟩ := T.obj _ _ at7 b hb
          exact (pin b hb o e).2
      cases b with
      | false => exact next s9 H9 I9 q9
      | true =>
        apply thnF (pe.run _ s9 σ8 H9 _ I9 q9)
        rintro z s10 ⟨yv, H10, I10, r10, k, S, c, rfl, hD, room, nx⟩
        apply thnF (mt_sadd (X := B) _ s10 σ8 H10 (.ref D) [.int k] (.ref D) [z] (fun _ H' => Nx H') I10 rfl (.cons r10 .nil) ⟨D, k, S, c, rfl, rfl, hD, room, nx⟩)
        rintro _ s11 ⟨_, H11, I11, _, nx⟩
        exact next s11 H11 I11 nx
  exact codeAny_compStart_set loop (T.self X.A 0 _ _ _ at4 loop)
end
end RO

namespace RO
open PySem PySem.Spec PyProof.Rows L2
section
variable {J : It} {n : Nat} {G : Hp → Prop} {Y : Nat → Hp → V → Hp → Prop}
/-- a set's comprehension over what is walked: Pv by the turn and the heap -/
theorem sc_it {ww : World} (wk : Walk J n G Y) {g : TG} {tt : TT} {te : TE} {vs : List Nat} {σ : L2.St} {H1 : Hp} {D : Addr} {Qd : Hp → Prop} (Pv : Nat → Hp → Prop) (h0 : Pv 0 (upd H1 D (SetO ww D (fun _ => false) 0))) (hG : ∀ i H, i ≤ n → Pv i H → G H)
    (hs : ∀ i x H H', i < n → Pv i H → Y i H x H' → g x (wipe σ vs) H' fun σ2 H2 => wipe σ2 vs = wipe σ vs ∧ tt σ2 H2 fun b H3 => if b = true then te σ2 H3 (Joins ww D (Pv (i + 1))) else Pv (i + 1) H3) (hd : ∀ H, Pv n H → Qd H) :
    ∃ W : Nat → Nat → Hp → Prop, (∃ m, W 0 m (upd H1 D (SetO ww D (fun _ => false) 0))) ∧ ∀ i m H, W i m H →
      (J.stop i H ∧ Qd H) ∨ (J.go i H ∧ ∃ Nx : Hp → Prop, (∀ H', Nx H' → ∃ m', m' < m ∧ W (i + 1) m' H') ∧ ∀ x H', J.yld i H x H' → g x (wipe σ vs) H' fun σ2 H2 => wipe σ2 vs = wipe σ vs ∧ tt σ2 H2 fun b H3 =>
        if b = true then te σ2 H3 (Joins ww D Nx) else Nx H3) := by
  refine ⟨fun i m H => m = n - i ∧ i ≤ n ∧ Pv i H, ⟨n, by simp, Nat.zero_le _, h0⟩, ?_⟩
  rintro i m H ⟨rfl, le, p⟩
  have q := hG i H le p
  rcases Nat.lt_or_ge i n with lt | ge
  · exact .inr ⟨wk.goes i H lt q, Pv (i + 1), fun H' p' => ⟨n - (i + 1), by omega, rfl, lt, p'⟩, fun x H' y => hs i x H H' lt p (wk.yields i H x H' lt q y)⟩
  · obtain rfl : i = n := by omega
    exact .inl ⟨wk.stops H q, hd H p⟩
end
theorem k_setI (K : PySem.W.Frag) (ww : World) {X : Cx} (hc : X.calm = true) (h : X.K = K := by rfl) (h2 : X.w = ww := by rfl) : CallR X (.type "set") (rSetI K ww) := by
  subst h h2
  exact cr_setI hc
theorem k_sortedSet (ww : World) {X : Cx} (hc : X.calm = true) (h2 : X.w = ww := by rfl) : CallR X (.builtin "sorted") (rSortedSet ww) := by
  subst h2
  exact cr_sortedSet hc
theorem asc_ext : ∀ {a b : List Int}, a.Pairwise (· < ·) → b.Pairwise (· < ·) → (∀ k, k ∈ a ↔ k ∈ b) → a = b
  | [], [], _, _, _ => rfl
  | [], y :: b, _, _, h => nomatch (h y).mpr (List.mem_cons_self ..)
  | x :: a, [], _, _, h => nomatch (h x).mp (List.mem_cons_self ..)
  | x :: a, y :: b, ha, hb, h => by
    obtain ⟨a1, a2⟩ := List.pairwise_cons.mp ha
    obtain ⟨b1, b2⟩ := List.pairwise_cons.mp hb
    have e : x = y := by
      rcases List.mem_cons.mp ((h x).mp (List.mem_cons_self ..)) with q | q
      · exact q
      · rcases List.mem_cons.mp ((h y).mpr (List.mem_cons_self ..)) with z | z
        · exact z.symm
        · have := b1 x q
          have := a1 y z
          omega
    subst e
    refine congrArg (x :: ·) (asc_ext a2 b2 fun k => ⟨fun hk => ?_, fun hk => ?_⟩)
    · rcases List.mem_cons.mp ((h k).mp (List.mem_cons_of_mem _ hk)) with q | q
      · have := a1 k hk
        omega
      · exact q
    · rcases List.mem_cons.mp ((h k).mpr (List.mem_cons_of_mem _ hk)) with q | q
      · have := b1 k hk
        omega
      · exact q
end RO

namespace RO
open PySem PySem.Spec PyProof.Rows L2
/-! ### tuples put together and cut, whatever their lengths -/
/-- x + y, two tuples: a tuple of both, new or one of them -/
def rCatU (K : PySem.W.Frag) : R2 := fun x y H Q => ∃ a b xs ys, x = .ref a ∧ y = .ref b ∧ SqT K H a xs ∧ SqT K H b ys ∧ xs.length + ys.length ≤ sizeLine ∧ ∀ q H', Same H H' → SqT K H' q (xs ++ ys) → Q (.ref q) H'
theorem k_catU (K : PySem.W.Frag) {X : Cx} (h : X.K = K := by rfl) : OpR X (binaryOp .Add) (rCatU K) := by
  subst h
  rintro pins s σ H x y v u Q I rx ry ⟨a, b, xs, ys, rfl, rfl, ha, hb, hz, q⟩
  by_cases hx : xs = []
  · subst hx
    cases rx
    cases ry
    obtain ⟨its, r1, p1, _⟩ := I.tuple ha
    obtain ⟨its2, r2, p2, _⟩ := I.tuple hb
    cases r1
    exact cat_tup0 p1 p2 ⟨.ref b, H, I, rfl, q b H (Same.refl _) hb⟩
  · refine op_catT pins s σ H (.ref a) (.ref b) v u Q I rx ry ⟨a, b, xs, ys, rfl, rfl, ha, hb, hx, hz, fun e => ?_, fun _ p hp => ?_⟩
    · subst e
      exact q a H (Same.refl _) (by rw [List.append_nil]; exact ha)
    · exact q p _ (same_new (Same.refl _) hp) (SqT.of upd_same)
/-- x[lo:hi], x a tuple: a tuple, new or itself -/
def rSlU (K : PySem.W.Frag) : V → Option Int → Option Int → Hp → VK → Prop := fun x lo hi H Q => ∃ a xs, x = .ref a ∧ SqT K H a xs ∧ ∀ q H', Same H H' → SqT K H' q (cutV xs lo hi) → Q (.ref q) H'
theorem k_slU (K : PySem.W.Frag) {X : Cx} (h : X.K = K := by rfl) : SlR X (rSlU K) := by
  subst h
  rintro pins s σ H x v vl vu lo hi sl Q I rx hs pl pu ⟨a, xs, rfl, ha, q⟩
  refine sl_tupA pins s σ H (.ref a) v vl vu lo hi sl Q I rx hs pl pu ⟨a, xs, rfl, ha, fun z => ?_, fun z p hp => ?_⟩
  · refine q a H (Same.refl _) ?_
    have e : cutV xs lo hi = xs := by
      unfold cutV
      rw [z.1, z.2, List.drop_zero, Nat.sub_zero, List.take_length]
    rw [e]
    exact ha
  · exact q p _ (same_new (Same.refl _) hp) (SqT.of upd_same)
theorem k_max (K : PySem.W.Frag) {X : Cx} (hc : X.calm = true) (h : X.K = K := by rfl) : CallR X (.builtin "max") (rMax K) := by
  subst h
  exact cr_max hc
end RO

namespace RO
/-! ### sums over stretches of whole numbers, forward and back -/
def nsum (f : Int → Int) : Nat → Int
  | 0 => 0
  | n + 1 => nsum f n + f n
def zsum (f : Int → Int) : Int → Int
  | .ofNat n => nsum f n
  | .negSucc n => - nsum (fun i => f (-i - 1)) (n + 1)
theorem zsum_nat (f : Int → Int) (n : Nat) : zsum f (n : Int) = nsum f n := rfl
theorem zsum_0 (f : Int → Int) : zsum f 0 = 0 := rfl
theorem zsum_succ (f : Int → Int) (n : Int) : zsum f (n + 1) = zsum f n + f n := by
  cases n with
  | ofNat n => rfl
  | negSucc n =>
    cases n with
    | zero =>
      show (0 : Int) = - (0 + f (-((0 : Nat) : Int) - 1)) + f (-1)
      have e : (-((0 : Nat) : Int) - 1) = -1 := rfl
      rw [e]
      omega
    | succ k =>
      show - nsum (fun i => f (-i - 1)) (k + 1) = - (nsum (fun i => f (-i - 1)) (k + 1) + f (-((k + 1 : Nat) : Int) - 1)) + f (Int.negSucc (k + 1))
      have e : (-((k + 1 : Nat) : Int) - 1) = Int.negSucc (k + 1) := by omega
      rw [e]
      omega
theorem zsum_uniq {f g : Int → Int} (h0 : g 0 = 0) (h : ∀ n, g (n + 1) = g n + f n) (n : Int) : g n = zsum f n := by
  have up : ∀ k : Nat, g (k : Int) = zsum f (k : Int) := by
    intro k
    induction k with
    | zero => exact h0
    | succ i ih => rw [show ((i + 1 : Nat) : Int) = (i : Int) + 1 from rfl, h, ih, zsum_succ]
  have down : ∀ k : Nat, g (-(k : Int)) = zsum f (-(k : Int)) := by
    intro k
    induction k with
    | zero => exact h0
    | succ i ih =>
      have a := h (-(i : Int) - 1)
      have b := zsum_succ f (-(i : Int) - 1)
      have e : -(i : Int) - 1 + 1 = -(i : Int) := by omega
      have e2 : -((i + 1 : Nat) : Int) = -(i : Int) - 1 := by omega
      rw [e] at a b
      rw [e2]
      omega
  rcases Int.natAbs_eq n with e | e
  · rw [e]; exact up _
  · rw [e]; exact down _
theorem zsum_congr {f g : Int → Int} (h : ∀ i, f i = g i) (n : Int) : zsum f n = zsum g n :=
  zsum_uniq (zsum_0 f) (fun i => by rw [zsum_succ, h]) n
theorem zsum_add (f : Int → Int) (a b : Int) : zsum f (a + b) = zsum f a + zsum (fun i => f (a + i)) b := by
  have h := zsum_uniq (f := fun i => f (a + i)) (g := fun i => zsum f (a + i) - zsum f a) (by show zsum f (a + 0) - _ = _; rw [Int.add_zero]; omega)
    (fun n => by show zsum f (a + (n + 1)) - _ = zsum f (a + n) - _ + f (a + n); rw [← Int.add_assoc, zsum_succ]; omega) b
  have h : zsum f (a + b) - zsum f a = _ := h
  omega
theorem zsum_neg (f : Int → Int) (n : Int) : zsum (fun i => - f i) n = - zsum f n :=
  (zsum_uniq (f := fun i => - f i) (g := fun i => - zsum f i) (by show - zsum f 0 = 0; rw [zsum_0]; rfl) (fun i => by show - zsum f (i + 1) = - zsum f i + - f i; rw [zsum_succ]; omega) n).symm
theorem zsum_const (c n : Int) : zsum (fun _ => c) n = n * c :=
  (zsum_uniq (f := fun _ => c) (g := fun i => i * c) (Int.zero_mul c) (fun i => by show (i + 1) * c = i * c + c; rw [Int.add_mul, Int.one_mul]) n).symm
/-- what is told by rounds is the sum -/
theorem rounds_sum {f : Int → Int} {m : Int} (hm : 0 < m) (per : ∀ i, f (i + m) = f i) (n : Int) : n / m * nsum f m.toNat + nsum f (n % m).toNat = zsum f n := by
  have perk : ∀ (k : Nat) (i : Int), f (i + m * k) = f i := by
    intro k
    induction k with
    | zero => intro i; rw [show i + m * ((0 : Nat) : Int) = i by rw [Int.natCast_zero, Int.mul_zero, Int.add_zero]]
    | succ k ih => intro i; rw [show i + m * ((k + 1 : Nat) : Int) = (i + m * (k : Int)) + m by rw [Int.natCast_add, Int.mul_add]; omega, per, ih]
  have perz : ∀ (q i : Int), f (i + m * q) = f i := by
    intro q i
    cases q with
    | ofNat k => exact perk k i
    | negSucc k =>
      have h := perk (k + 1) (i + m * Int.negSucc k)
      have e : i + m * Int.negSucc k + m * ((k + 1 : Nat) : Int) = i := by
        rw [Int.add_assoc, ← Int.mul_add, show Int.negSucc k + ((k + 1 : Nat) : Int) = 0 by omega, Int.mul_zero, Int.add_zero]
      rw [e] at h
      exact h.symm
  refine zsum_uniq (f := f) (g := fun n => n / m * nsum f m.toNat + nsum f (n % m).toNat) ?_ (fun n => ?_) n
  · show 0 / m * _ + nsum f (0 % m).toNat = 0
    rw [Int.zero_ediv, Int.zero_emod, Int.zero_mul]
    rfl
  · show (n + 1) / m * nsum f m.toNat + nsum f ((n + 1) % m).toNat = n / m * nsum f m.toNat + nsum f (n % m).toNat + f n
    have r0 := Int.emod_nonneg n (show m ≠ 0 by omega)
    have r1 := Int.emod_lt_of_pos n hm
    have dm := Int.emod_add_mul_ediv n m
    have fn : f n = f (n % m) := by
      have h := perz (n / m) (n % m)
      rw [dm] at h
      exact h
    obtain ⟨k, hk⟩ := Int.eq_ofNat_of_zero_le r0
    by_cases c : n % m + 1 < m
    · have e1 : (n + 1) / m = n / m ∧ (n + 1) % m = n % m + 1 := by
        rw [Int.ediv_emod_unique hm]
        refine ⟨?_, by omega, c⟩
        omega
      rw [e1.1, e1.2, fn, hk]
      show _ + (nsum f k + f k) = _ + nsum f k + f k
      omega
    · have e1 : (n + 1) / m = n / m + 1 ∧ (n + 1) % m = 0 := by
        rw [Int.ediv_emod_unique hm]
        refine ⟨?_, by omega, hm⟩
        rw [Int.mul_add]
        omega
      have em : m.toNat = k + 1 := by omega
      rw [e1.1, e1.2, fn, hk, em]
      show (n / m + 1) * (nsum f k + f k) + 0 = n / m * (nsum f k + f k) + nsum f k + f k
      rw [Int.add_mul, Int.one_mul]
      omega
/-- a whole round is added as often as it is gone -/
theorem zsum_rounds {f : Int → Int} {m : Int} (per : ∀ i, f (i + m) = f i) (a q : Int) : zsum f (a + q * m) = zsum f a + q * (zsum f (a + m) - zsum f a) := by
  have shift : ∀ n, zsum f (n + m) - zsum f n = zsum f m := by
    intro n
    have h := zsum_uniq (f := f) (g := fun n => zsum f (n + m) - zsum f m) (by show zsum f (0 + m) - _ = 0; rw [Int.zero_add]; omega)
      (fun n => by show zsum f (n + 1 + m) - _ = zsum f (n + m) - _ + f n; rw [show n + 1 + m = n + m + 1 by omega, zsum_succ, per]; omega) n
    have h : zsum f (n + m) - zsum f m = zsum f n := h
    omega
  have h : ∀ q : Int, zsum f (a + q * m) - zsum f a = zsum (fun _ => zsum f m) q := by
    intro q
    refine zsum_uniq (f := fun _ => zsum f m) (g := fun q => zsum f (a + q * m) - zsum f a) ?_ (fun q => ?_) q
    · show zsum f (a + 0 * m) - _ = 0
      rw [Int.zero_mul, Int.add_zero]
      omega
    · show zsum f (a + (q + 1) * m) - _ = zsum f (a + q * m) - _ + zsum f m
      have e : a + (q + 1) * m = a + q * m + m := by rw [Int.add_mul, Int.one_mul]; omega
      have := shift (a + q * m)
      rw [e]
      omega
  have h1 := h q
  rw [zsum_const] at h1
  rw [shift a]
  omega
/-! ### headings -/
/-- the number of the heading of a swing -/
def hdg (s p : Int) : Int := s / p % 8
def hxs : List Int := [0, 1, 1, 1, 0, -1, -1, -1]
def hys : List Int := [1, 1, 0, -1, -1, -1, 0, 1]
def dx (s p : Int) : Int := hxs.getD (hdg s p).toNat 0
def dy (s p : Int) : Int := hys.getD (hdg s p).toNat 0
theorem hdg_range (s p : Int) : 0 ≤ hdg s p ∧ hdg s p < 8 := ⟨Int.emod_nonneg _ (by decide), Int.emod_lt_of_pos _ (by decide)⟩
theorem hdg_per {p : Int} (hp : 0 < p) (s k : Int) : hdg (s + 8 * p * k) p = hdg s p := by
  unfold hdg
  rw [show s + 8 * p * k = s + p * (8 * k) by rw [Int.mul_comm 8 p, Int.mul_assoc], Int.add_mul_ediv_left _ _ (by omega), Int.add_mul_emod_self_left]
theorem dx_per {p : Int} (hp : 0 < p) (s k : Int) : dx (s + 8 * p * k) p = dx s p := by unfold dx; rw [hdg_per hp]
theorem dy_per {p : Int} (hp : 0 < p) (s k : Int) : dy (s + 8 * p * k) p = dy s p := by unfold dy; rw [hdg_per hp]
/-- the minutes of a round -/
def roundOf (v p : Int) : Int := 8 * p / ((Nat.gcd v.natAbs (8 * p).natAbs : Nat) : Int)
theorem roundOf_spec {p : Int} (hp : 0 < p) (v : Int) : 0 < roundOf v p ∧ roundOf v p ≤ 8 * p ∧ ∃ k, roundOf v p * v = 8 * p * k := by
  have hc : 0 < 8 * p := by omega
  have g0 : 0 < Nat.gcd v.natAbs (8 * p).natAbs := Nat.gcd_pos_of_pos_right _ (by omega)
  obtain ⟨a, ha⟩ := Nat.gcd_dvd_left v.natAbs (8 * p).natAbs
  obtain ⟨b, hb⟩ := Nat.gcd_dvd_right v.natAbs (8 * p).natAbs
  unfold roundOf
  generalize Nat.gcd v.natAbs (8 * p).natAbs = g at *
  have eb : 8 * p = (g : Int) * (b : Int) := by rw [← Int.natCast_mul, ← hb]; omega
  have er : 8 * p / (g : Int) = (b : Int) := by rw [eb, Int.mul_ediv_cancel_left _ (by omega)]
  rw [er]
  have b0 : b ≠ 0 := fun z => by rw [z, Int.natCast_zero, Int.mul_zero] at eb; omega
  refine ⟨by omega, ?_, ?_⟩
  · rw [eb]
    have : b ≤ g * b := Nat.le_mul_of_pos_left b g0
    rw [← Int.natCast_mul]
    omega
  · obtain ⟨va, hva⟩ : ∃ va : Int, v = (g : Int) * va := by
      rcases Int.natAbs_eq v with z | z
      · exact ⟨a, by rw [z, ha, Int.natCast_mul]⟩
      · exact ⟨-a, by rw [z, ha, Int.natCast_mul, Int.mul_neg]⟩
    refine ⟨va, ?_⟩
    rw [eb, hva, ← Int.mul_assoc, Int.mul_comm (b : Int) (g : Int)]
theorem round_per {h : Int → Int → Int} {p : Int} (hp : 0 < p) (per : ∀ s k, h (s + 8 * p * k) p = h s p) (s v i : Int) : h (s + (i + roundOf v p) * v) p = h (s + i * v) p := by
  obtain ⟨k, hk⟩ := (roundOf_spec hp v).2.2
  rw [show s + (i + roundOf v p) * v = s + i * v + 8 * p * k by rw [Int.add_mul, hk]; omega, per]
/-- where she is: x, y, swing -/
structure Boat where
  x : Int
  y : Int
  s : Int
def sailed (b : Boat) (port star n p : Int) : Boat :=
  ⟨b.x + (port + star) * zsum (fun i => dx (b.s + i * (port - star)) p) n, b.y + (port + star) * zsum (fun i => dy (b.s + i * (port - star)) p) n, b.s + n * (port - star)⟩
theorem sailed_0 (b : Boat) (port star p : Int) : sailed b port star 0 p = b := by
  unfold sailed
  rw [zsum_0, zsum_0, Int.mul_zero, Int.zero_mul, Int.add_zero, Int.add_zero, Int.add_zero]
/-- in pieces -/
theorem sailed_add (b : Boat) (port star m n p : Int) : sailed (sailed b port star m p) port star n p = sailed b port star (m + n) p := by
  unfold sailed
  have e : ∀ i : Int, b.s + m * (port - star) + i * (port - star) = b.s + (m + i) * (port - star) := fun i => by rw [Int.add_mul]; omega
  simp only [e]
  rw [zsum_add _ m n, zsum_add _ m n, Int.mul_add, Int.mul_add, Int.add_assoc, Int.add_assoc]
end RO

namespace RO
open PySem PySem.Spec PyProof.Rows L2 RZ
/-! ### zip of two lists or two tuples, K said -/
theorem k_piZip (K : PySem.W.Frag) {X : Cx} {e e2 : Expr} {ta : TA} {p pos tpos : Pos} {elts : List Expr} {kk : Nat} (hg : Gl X "zip") (hm : X.mg "zip" = none) (ha : PA X [e, e2] ta)
    (hs : starEach [e, e2] X.env = (false, eval e X.env) :: starEach [e2] X.env := by rfl) (hpl : (backTo pos (starEach [e2] X.env)).any (·.1) = false := by rfl) (hK : X.K = K := by rfl) :
    PI X (.Tuple elts kk tpos) (.Call (.Name "zip" p) [e, e2] [] pos) (iZipA K ta) := by
  subst hK
  exact pi_zipA hg hm ha hs hpl
theorem walk_zipT {K : PySem.W.Frag} {a b : Addr} {xs ys : List V} {n : Nat} (hn : n = min xs.length ys.length) : Walk (ItzT K a b) n (fun H => SqT K H a xs ∧ SqT K H b ys) (YPair (fun i => xs[i]?) (fun i => ys[i]?)) := by
  subst hn
  refine ⟨fun i _ hi q => ?_, fun _ q => ⟨xs, ys, q.1, q.2, by omega⟩, fun i H v H' _ q y => ?_⟩
  · have h1 : i < xs.length := by omega
    have h2 : i < ys.length := by omega
    exact ⟨xs, ys, xs[i], ys[i], q.1, q.2, by simp [h1], by simp [h2]⟩
  · obtain ⟨T, x, z, h1, h2, h3, h4, h5⟩ := y
    exact ⟨T, x, z, h1, h2, h3, h4 xs q.1, h5 ys q.2⟩
end RO

namespace PySem.F
theorem zip_no_len : typeLookup (.type "zip") "__len__" = pure none := am_miss_of_fast (by decide +kernel)
theorem zip_no_hint : typeLookup (.type "zip") "__length_hint__" = pure none := am_miss_of_fast (by decide +kernel)
end PySem.F
namespace RO
open PySem PySem.Spec PyProof.Rows L2
/-! ### list(zip(xs, ys)), two lists -/
/-- zip at its turn i, as list(..) walks it; S the list that is made -/
def ZAt (l1 l2 z TI TO i1 i2 S : Addr) (i : Nat) (h : Heap) : Prop :=
  (∀ c ∈ [z, TI, TO, i1, i2], c < h.objs.size) ∧ IsPair h TI (.ref i1) (.ref i2) ∧ h.IsListIter i1 l1 i ∧ h.IsListIter i2 l2 i ∧
  ((IsZip h z TI TO .none ∧ ∃ a b, IsPair h TO a b) ∨ ∃ T f oT, IsZipHeld h z TI TO T f ∧ h.get? T = some oT ∧ T ≠ z ∧ T ≠ i1 ∧ T ≠ i2 ∧ T ≠ S)
def Pairs (H : Hp) (xs ys : List V) (S : Addr) (ps : List Addr) : Prop := ∀ (j : Nat) (p : Addr), ps[j]? = some p → p ≠ S ∧ ∃ x y, xs[j]? = some x ∧ ys[j]? = some y ∧ H p = some (.tup [x, y])
theorem fp_stat {X : Cx} {pins : List (Addr × Obj)} {H H' : Hp} {b : Addr} (h : FpOk X pins H b) (hn : H' b = none) : FpOk X pins H' b := ⟨hn, h.2⟩
section
variable {X : Cx} {pins : List (Addr × Obj)} {σ : L2.St} {l1 l2 z TI TO i1 i2 S : Addr} {xs ys : List V} {R : Result → Shared → Prop} {res : Value} {A : Around}
theorem zip_loop (hA : A.handled = none) (D : ZipApart z TI TO i1 i2 l1 l2) (hS : S ∉ [z, TI, TO, i1, i2]) (H0 : Hp) (hl : min xs.length ys.length ≤ sizeLine) :
    ∀ (k i : Nat) (s : Shared) (H : Hp) (ps : List Addr), min xs.length ys.length - i = k → i ≤ min xs.length ys.length → Inv X pins σ H s → (∀ b ∈ [z, TI, TO, i1, i2], FpOk X pins H b) → ZAt l1 l2 z TI TO i1 i2 S i s.heap →
    SqL X.K H l1 xs → SqL X.K H l2 ys → l1 ≠ S → l2 ≠ S → But S H0 H → H S = some (.lst (ps.map V.ref)) → ps.length = i → Pairs H xs ys S ps →
    (∀ H' s' ps', Inv X pins σ H' s' → But S H0 H' → H' S = some (.lst (ps'.map V.ref)) → ps'.length = min xs.length ys.length → Pairs H' xs ys S ps' → R (.ok (.ret res)) s') →
    codeAny (model X.prog X.w) A (.builtin "list.extend.loop" ⟨[.ref S, .ref z, res], []⟩) R s := by
  intro k
  induction k with
  | zero =>
    intro i s H ps hk hi I hf st hq1 hq2 n1 n2 b0 eS lp hp hR
    have hin : i = min xs.length ys.length := by omega
    refine codeAny_builtin F.entry_extend_loop ?_
    rw [Around.under_plainId F.plain_extend_loop _]
    show wpAny _ A.in1 (pyNext (.ref z) >>= _) _ _ s
    obtain ⟨szs, hTI, h1, h2, hz⟩ := st
    obtain ⟨its, rv, p, _⟩ := I.list hq1
    obtain ⟨its2, rv2, p2, _⟩ := I.list hq2
    have e1 := rv.length
    have e2 := rv2.length
    have he : its.toArray[i]? = none ∨ its2.toArray[i]? = none := by
      rcases Nat.le_total xs.length ys.length with h | h
      · exact .inl (by simp; omega)
      · exact .inr (by simp; omega)
    have fin : ∀ h', (∀ c o, c ≠ z → c ≠ TO → c ≠ i1 → c ≠ i2 → s.heap.get? c = some o → h'.get? c = some o) → Inv X pins σ H { s with heap := h' } := fun h' hk =>
      I.turnedL (t' := s.toks) (ch := [z, TI, TO, i1, i2]) (fun c o hb q => hk c o (fun q' => hb (by simp [q'])) (fun q' => hb (by simp [q'])) (fun q' => hb (by simp [q'])) (fun q' => hb (by simp [q'])) q) hf
    rcases hz with ⟨hz, a, b, hTO⟩ | ⟨T, f, oT, hz, hT, r1, r2, r3, r4⟩
    · refine wpAny_bind (wpAny_pyNext_zip_end (A := A.in1) hA D hz hTI hTO h1 h2 p.isList p2.isList he fun h' hk => ?_)
      exact wpAny_pure (hR H _ ps (fin h' hk) b0 eS (by omega) hp)
    · refine wpAny_bind (wpAny_pyNext_zip_end_held (A := A.in1) hA D hz hT hTI h1 h2 p.isList p2.isList he fun h' hk => ?_)
      exact wpAny_pure (hR H _ ps (fin h' fun c o q1 q2 q3 q4 => hk c o q1 q3 q4) b0 eS (by omega) hp)
  | succ k ih =>
    intro i s H ps hk hi I hf st hq1 hq2 n1 n2 b0 eS lp hp hR
    have hlt : i < min xs.length ys.length := by omega
    refine codeAny_builtin F.entry_extend_loop ?_
    rw [Around.under_plainId F.plain_extend_loop _]
    show wpAny _ A.in1 (pyNext (.ref z) >>= _) _ _ s
    obtain ⟨szs, hTI, h1, h2, hz⟩ := st
    obtain ⟨its, rv, p, _⟩ := I.list hq1
    obtain ⟨its2, rv2, p2, _⟩ := I.list hq2
    obtain ⟨x, hx⟩ : ∃ x, xs[i]? = some x := ⟨_, List.getElem?_eq_getElem (by omega)⟩
    obtain ⟨y, hy⟩ : ∃ y, ys[i]? = some y := ⟨_, List.getElem?_eq_getElem (by omega)⟩
    obtain ⟨u, hu, ru⟩ := rv.get hx
    obtain ⟨u2, hu2, ru2⟩ := rv2.get hy
    have hzl : z < s.heap.objs.size := by
      rcases hz with ⟨hz, _⟩ | ⟨_, _, _, hz, _⟩ <;> exact Heap.lt_size hz
    have lt : ∀ {c o}, s.heap.get? c = some o → s.heap.objs.size ≠ c := fun e => Nat.ne_of_gt (Heap.lt_size e)
    have m1 : s.heap.objs.size ≠ i1 := let ⟨_, e, _⟩ := h1; lt e
    have m2 : s.heap.objs.size ≠ i2 := let ⟨_, e, _⟩ := h2; lt e
    have mz : s.heap.objs.size ≠ z := Nat.ne_of_gt hzl
    have hSs : s.heap.objs.size ≠ S := fun e => by
      have := I.hok.fresh (Nat.le_refl s.heap.objs.size)
      rw [e, eS] at this
      cases this
    have hlz : s.heap.objs.size ≠ TI := lt hTI
    have fpT : ∀ c ∈ [z, TI, TO, i1, i2], c ≠ s.heap.objs.size := fun c hc => Nat.ne_of_lt (szs c hc)
    -- what is put behind
    have put : ∀ (h' : Heap), h'.objs.size = s.heap.objs.size + 1 → (∀ c o, c ≠ z → c ≠ TO → c ≠ i1 → c ≠ i2 → s.heap.get? c = some o → h'.get? c = some o) → IsPair h' s.heap.objs.size u u2 → h'.IsListIter i1 l1 (i + 1) → h'.IsListIter i2 l2 (i + 1) →
        ((IsZip h' z TI TO .none ∧ ∃ a b, IsPair h' TO a b) ∨ ∃ T f oT, IsZipHeld h' z TI TO T f ∧ h'.get? T = some oT ∧ T ≠ z ∧ T ≠ i1 ∧ T ≠ i2 ∧ T ≠ S) →
        wpAny (model X.prog X.w) A.in1 (updateSeq S (·.push (.ref s.heap.objs.size)) >>= fun _ => again (.builtin "list.extend.loop" ⟨[.ref S, .ref z, res], []⟩))
          (fun fin s' => match fin with | .done f => R (.ok f) s' | .again c' => c'.quiet = true ∧ codeAny (model X.prog X.w) A c' R s') (fun e s' => R (.error e) s') { s with heap := h' } := by
      intro h' hsz hk hT a3 a4 hz'
      have new : ObjOk X.prog X.w (upd H s.heap.objs.size (.tup [x, y])) h' s.heap.objs.size (.tup [x, y]) :=
        ⟨by show 2 ≤ sizeLine; decide, [u, u2], .cons ru (.cons ru2 .nil), ⟨_, hT, rfl, _, rfl⟩⟩
      have I1 : Inv X pins σ (upd H s.heap.objs.size (.tup [x, y])) { s with heap := h' } :=
        I.turnedNew (t' := s.toks) (ch := [z, TI, TO, i1, i2]) (fun c o hb q => hk c o (fun q' => hb (by simp [q'])) (fun q' => hb (by simp [q'])) (fun q' => hb (by simp [q'])) (fun q' => hb (by simp [q'])) q) hf (Nat.le_refl _) new
      have eS1 : (upd H s.heap.objs.size (.tup [x, y])) S = some (.lst (ps.map V.ref)) := (upd_ne (Ne.symm hSs)).trans eS
      obtain ⟨lz, its3, n3, rv3, _, hS3⟩ := I1.lstM eS1
      have e3 := rv3.length
      rw [List.length_map, lp] at e3
      have I2 := I1.lset (its' := its3 ++ [.ref s.heap.objs.size]) (f := fun a => a.push (.ref s.heap.objs.size)) (ys := ps.map V.ref ++ [V.ref s.heap.objs.size]) (t' := s.toks) eS1 hS3 (by simp) (rv3.append (.cons (show L2.RelV (V.ref s.heap.objs.size) (.ref s.heap.objs.size) from rfl) .nil)) (by rw [List.length_append, List.length_map, lp]; show i + 1 ≤ _; omega)
      have same1 : Same H (upd H s.heap.objs.size (.tup [x, y])) := same_new (Same.refl _) (I.hok.fresh (Nat.le_refl _))
      refine wpAny_bind ?_
      refine wpAny_updateSeq hS3 rfl (wpAny_pure ⟨plainId_quiet F.plain_extend_loop _, ih (i + 1) _ _ (ps ++ [s.heap.objs.size]) (by omega) hlt I2 (fun c hc => ?_) ⟨fun c hc => ?_, ?_, ?_, ?_, ?_⟩ ?_ ?_ n1 n2 ?_ ?_ ?_ ?_ hR⟩) ?_ ?_
      · have nS : c ≠ S := fun e => hS (e ▸ hc)
        exact fp_stat (hf c hc) (by rw [upd_ne nS, upd_ne (fpT c hc)]; exact (hf c hc).1)
      · rw [Heap.size_update, hsz]
        exact Nat.lt_succ_of_lt (szs c hc)
      · have nS : TI ≠ S := fun e => hS (by simp [← e])
        exact (Heap.get?_update_other _ _ (Ne.symm nS)).trans (hk _ _ D.TIz D.TITO D.TIi1 D.TIi2 hTI)
      · exact a3.at fun o q => (Heap.get?_update_other _ _ (fun e => hS (by simp [e]))).trans q
      · exact a4.at fun o q => (Heap.get?_update_other _ _ (fun e => hS (by simp [e]))).trans q
      · rcases hz' with ⟨hz, a, b, hTO⟩ | ⟨T, f, oT, hz, hT, r1, r2, r3, r4⟩
        · exact .inl ⟨(Heap.get?_update_other _ _ (fun e => hS (by simp [e]))).trans hz, a, b, (Heap.get?_update_other _ _ (fun e => hS (by simp [e]))).trans hTO⟩
        · exact .inr ⟨T, f, oT, (Heap.get?_update_other _ _ (fun e => hS (by simp [e]))).trans hz, (Heap.get?_update_other _ _ (Ne.symm r4)).trans hT, r1, r2, r3, r4⟩
      · exact But.put.seqL n1 (same_seqL same1 hq1)
      · exact But.put.seqL n2 (same_seqL same1 hq2)
      · exact (b0.trans (But.of_same same1)).trans But.put
      · rw [upd_same, List.map_append]
        rfl
      · rw [List.length_append, lp]
        rfl
      · intro j p' hj
        by_cases cc : j < ps.length
        · rw [List.getElem?_append_left cc] at hj
          obtain ⟨q1, x', y', q2, q3, q4⟩ := hp j p' hj
          exact ⟨q1, x', y', q2, q3, (upd_ne q1).trans (same1 _ _ q4)⟩
        · have ej : j = i := by
            obtain ⟨z3, _⟩ := List.getElem?_eq_some_iff.mp hj
            rw [List.length_append] at z3
            have z3 : j < ps.length + 1 := z3
            omega
          subst ej
          rw [List.getElem?_append_right (by omega), lp, Nat.sub_self] at hj
          obtain rfl : s.heap.objs.size = p' := Option.some.inj hj
          exact ⟨hSs, x, y, hx, hy, (upd_ne hSs).trans upd_same⟩
      · rw [List.size_toArray]
        omega
      · show (its3.toArray.push _).size ≤ _
        rw [Array.size_push, List.size_toArray]
        omega
    rcases hz with ⟨hz, a, b, hTO⟩ | ⟨T, f, oT, hz, hT, r1, r2, r3, r4⟩
    · refine wpAny_bind (wpAny_pyNext_zip_item D hz hTI hTO h1 h2 p.isList p2.isList (x := u) (y := u2) (by simpa using hu) (by simpa using hu2) fun h' a1 a2 a3 a4 a5 a6 hk => ?_)
      exact put h' a6 hk a5 a3 a4 (.inr ⟨s.heap.objs.size, false, _, a1, a5, mz, m1, m2, hSs⟩)
    · refine wpAny_bind (wpAny_pyNext_zip_item_held D hz hT hTI h1 h2 p.isList p2.isList (x := u) (y := u2) (by simpa using hu) (by simpa using hu2) fun h' a1 a3 a4 a5 a6 hk => ?_)
      exact put h' a6 (fun c o q1 q2 q3 q4 => hk c o q1 q3 q4) a5 a3 a4 (.inr ⟨T, true, oT, a1, hk _ _ r1 r2 r3 hT, r1, r2, r3, r4⟩)
theorem zip_extend (hA : A.handled = none) (D : ZipApart z TI TO i1 i2 l1 l2) (hS : S ∉ [z, TI, TO, i1, i2]) (H0 : Hp) (hl : min xs.length ys.length ≤ sizeLine) (s : Shared) (H : Hp) (I : Inv X pins σ H s) (hf : ∀ b ∈ [z, TI, TO, i1, i2], FpOk X pins H b)
    (st : ZAt l1 l2 z TI TO i1 i2 S 0 s.heap) (hz : IsZip s.heap z TI TO .none) (hq1 : SqL X.K H l1 xs) (hq2 : SqL X.K H l2 ys) (n1 : l1 ≠ S) (n2 : l2 ≠ S) (b0 : But S H0 H) (eS : H S = some (.lst []))
    (hR : ∀ H' s' ps', Inv X pins σ H' s' → But S H0 H' → H' S = some (.lst (ps'.map V.ref)) → ps'.length = min xs.length ys.length → Pairs H' xs ys S ps' → R (.ok (.ret res)) s') :
    wpAny (model X.prog X.w) A.in1 (Builtin.List.listExtendWith (.ref S) (.ref z) res)
      (fun fin s' => match fin with | .done f => R (.ok f) s' | .again c' => c'.quiet = true ∧ codeAny (model X.prog X.w) A c' R s') (fun e s' => R (.error e) s') s := by
  have hT : s.TypeIs (.ref z) "zip" := ⟨_, hz, rfl⟩
  have hSz : S ≠ z := fun e => hS (by simp [e])
  obtain ⟨_, its0, n0, rv0, e0, hS0⟩ := I.lstM eS
  have e0 : its0 = [] := by
    cases its0 with
    | nil => rfl
    | cons a b => simp at e0
  subst e0
  unfold Builtin.List.listExtendWith
  refine wpAny_bind (wpAny_typeOf hT ?_)
  have h1 : Builtin.List.listSameRef (.ref S) (.ref z) = false := by simp [Builtin.List.listSameRef, hSz]
  have h2 : (Value.type "zip" == Value.type "list") = false := by decide
  have h3 : (Value.type "zip" == Value.type "tuple") = false := by decide
  simp only [h1, h2, h3, Bool.or_false, Bool.false_eq_true, if_false]
  refine wpAny_bind (wpAny_pyIter_zip hz ?_)
  refine wpAny_bind (wpAny_holding ?_)
  unfold Builtin.List.listLengthHint
  refine wpAny_bind (wpAny_specialOf hT F.zip_no_len ?_)
  show wpAny _ A.in1 (specialOf (Value.ref z) (Str.ofString "__length_hint__") >>= _) _ _ _
  refine wpAny_bind (wpAny_specialOf hT F.zip_no_hint ?_)
  refine wpAny_pure ?_
  show wpAny _ A.in1 (rule "list.extend.makes-room" >>= fun _ => Builtin.List.listTouch (.ref S) >>= fun _ =>
    again (.builtin "list.extend.loop" ⟨[.ref S, .ref z, res], []⟩)) _ _ _
  refine wpAny_bind (wpAny_rule ?_)
  refine wpAny_bind ?_
  show wpAny _ A.in1 (updateSeq S (·.push .none) >>= fun _ => updateSeq S (·.pop)) _ _ _
  refine wpAny_bind (wpAny_updateSeq hS0 rfl ?_)
  have hS2 := Heap.get?_update_self (Obj.mapSeq (·.push Value.none)) hS0 rfl
  refine wpAny_updateSeq (hz := by seq_fits) hS2 rfl ?_
  have hS3 := Heap.get?_update_self (Obj.mapSeq (·.pop)) hS2 rfl
  have oth : ∀ b o, b ≠ S → s.heap.get? b = some o → ((s.heap.update S (Obj.mapSeq (·.push Value.none))).update S (Obj.mapSeq (·.pop))).get? b = some o :=
    fun b o hb e => (Heap.get?_update_other _ _ (Ne.symm hb)).trans ((Heap.get?_update_other _ _ (Ne.symm hb)).trans e)
  have I3 : Inv X pins σ (upd H S (.lst [])) { s with heap := (s.heap.update S (Obj.mapSeq (·.push Value.none))).update S (Obj.mapSeq (·.pop)), toks := s.toks } :=
    I.write (x := S) (e := S) (by rw [eS]; exact trivial) (.inl rfl) oth ⟨_, hS3⟩ ⟨Nat.zero_le _, [], _, .nil, hS3⟩
  have hcell : ∀ c ∈ [z, TI, TO, i1, i2], c ≠ S := fun c hc e => hS (e ▸ hc)
  obtain ⟨szs, hTI, q1, q2, q3⟩ := st
  refine wpAny_pure ⟨plainId_quiet F.plain_extend_loop _, zip_loop hA D hS H0 hl _ 0 _ _ [] rfl (Nat.zero_le _) I3 (fun c hc' => fp_stat (hf c hc') (by rw [upd_ne (hcell c hc')]; exact (hf c hc').1)) ⟨fun c hc' => ?_, ?_, ?_, ?_, ?_⟩ (But.put.seqL n1 hq1) (But.put.seqL n2 hq2) n1 n2 (b0.trans But.put) upd_same rfl (fun j p hj => by simp at hj) hR⟩
  · rw [Heap.size_update, Heap.size_update]
    exact szs c hc'
  · exact oth _ _ (hcell _ (by simp)) hTI
  · exact q1.at fun o q => oth _ _ (hcell _ (by simp)) q
  · exact q2.at fun o q => oth _ _ (hcell _ (by simp)) q
  · rcases q3 with ⟨hz, a, b, hTO⟩ | ⟨T, f, oT, hz, hT, r1, r2, r3, r4⟩
    · exact .inl ⟨oth _ _ (hcell _ (by simp)) hz, a, b, oth _ _ (hcell _ (by simp)) hTO⟩
    · exact .inr ⟨T, f, oT, oth _ _ (hcell _ (by simp)) hz, oth _ _ r4 hT, r1, r2, r3, r4⟩
theorem call_list_zip {Q : VK} (hc : X.calm = true) (D : ZipApart z TI TO i1 i2 l1 l2) {s : Shared} {H : Hp} (I : Inv X pins σ H s) (hf : ∀ b ∈ [z, TI, TO, i1, i2], FpOk X pins H b)
    (szs : ∀ c ∈ [z, TI, TO, i1, i2], c < s.heap.objs.size) (hz : IsZip s.heap z TI TO .none) (hTI : IsPair s.heap TI (.ref i1) (.ref i2)) (hTO : ∃ a b, IsPair s.heap TO a b) (h1 : s.heap.IsListIter i1 l1 0) (h2 : s.heap.IsListIter i2 l2 0)
    (hq1 : SqL X.K H l1 xs) (hq2 : SqL X.K H l2 ys)
    (hQ : ∀ H' q ps, Same H H' → H q = none → H' q = some (.lst (ps.map V.ref)) → ps.length = min xs.length ys.length → Pairs H' xs ys q ps → Q (.ref q) H') :
    wpAny (model X.prog X.w) X.A (call (.type "list") [.ref z]) (EP X pins σ Q) X.xe s := by
  obtain ⟨its, rv, p1, zz1⟩ := I.list hq1
  obtain ⟨its2, rv2, p2, zz2⟩ := I.list hq2
  have hl : min xs.length ys.length ≤ sizeLine := Nat.le_trans (Nat.min_le_left ..) zz1
  have fr : H s.heap.objs.size = none := I.hok.fresh (Nat.le_refl _)
  have hS : s.heap.objs.size ∉ [z, TI, TO, i1, i2] := fun hm => Nat.lt_irrefl _ (szs _ hm)
  refine callType_codes (Q₁ := fun obj s₁ => obj = .ref s.heap.objs.size ∧ s₁ = { s with heap := s.heap.push { cls := .type "list", data := .seq #[] } }) F.called_list (F.typeCall_list_1 _) F.entry_list_init
    (code_list_new _ ⟨rfl, rfl⟩) fun obj s₁ h₁ => ?_
  obtain ⟨rfl, rfl⟩ := h₁
  have hSS : (s.heap.push { cls := .type "list", data := .seq #[] }).get? s.heap.objs.size = some { cls := .type "list", data := .seq #[] } := Heap.get?_push_size _ rfl
  refine ⟨⟨_, hSS, rfl⟩, F.args_list_init_2 _ _, ?_⟩
  have I1 : Inv X pins σ (upd H s.heap.objs.size (.lst [])) { s with heap := s.heap.push { cls := .type "list", data := .seq #[] }, toks := s.toks } := I.lnew (its := []) (ys := []) .nil (Nat.zero_le _)
  show wpAny _ X.A.in1.in1 (do let old ← Builtin.List.listItems (.ref s.heap.objs.size); Builtin.List.listUpdate (.ref s.heap.objs.size) (fun _ => #[]); letGo old.toList.reverse; Builtin.List.listExtendWith (.ref s.heap.objs.size) (.ref z) .none) _ _ _
  refine wpAny_bind ?_
  unfold Builtin.List.listItems
  refine wpAny_bind (wpAny_seqItems hSS rfl (wpAny_pure ?_))
  show wpAny _ X.A.in1.in1 (updateSeq s.heap.objs.size (fun _ => #[]) >>= fun _ => letGo (#[] : Array Value).toList.reverse >>= fun _ => Builtin.List.listExtendWith (.ref s.heap.objs.size) (.ref z) .none) _ _ _
  refine wpAny_bind (wpAny_updateSeq hSS rfl ?_)
  have hS2 := Heap.get?_update_self (Obj.mapSeq (fun _ => (#[] : Array Value))) hSS rfl
  have oth : ∀ b o, b ≠ s.heap.objs.size → s.heap.get? b = some o → ((s.heap.push { cls := .type "list", data := .seq #[] }).update s.heap.objs.size (Obj.mapSeq (fun _ => (#[] : Array Value)))).get? b = some o :=
    fun b o hb e => (Heap.get?_update_other _ _ (Ne.symm hb)).trans (Heap.get?_push_of_some _ e)
  refine wpAny_bind (wpAny_letGo ?_)
  have I2 : Inv X pins σ (upd (upd H s.heap.objs.size (.lst [])) s.heap.objs.size (.lst [])) { s with heap := (s.heap.push { cls := .type "list", data := .seq #[] }).update s.heap.objs.size (Obj.mapSeq (fun _ => (#[] : Array Value))), toks := s.toks } :=
    I1.write (x := s.heap.objs.size) (e := s.heap.objs.size) (by rw [upd_same]; exact trivial) (.inl rfl) (fun b u hb hu => (Heap.get?_update_other _ _ (Ne.symm hb)).trans hu) ⟨_, hS2⟩ ⟨Nat.zero_le _, [], _, .nil, hS2⟩
  have n1 : l1 ≠ s.heap.objs.size := Nat.ne_of_lt p1.lt
  have n2 : l2 ≠ s.heap.objs.size := Nat.ne_of_lt p2.lt
  have same2 : Same H (upd (upd H s.heap.objs.size (.lst [])) s.heap.objs.size (.lst [])) := fun b o e => by
    have n := ne_of_none e fr
    rw [upd_ne n, upd_ne n]
    exact e
  have ncell : ∀ c ∈ [z, TI, TO, i1, i2], c ≠ s.heap.objs.size := fun c hc e => hS (e ▸ hc)
  refine zip_extend (S := s.heap.objs.size) (A := X.A.in1) (I.ok.hd hc) D hS H hl _ _ I2 (fun c hc' => fp_stat (hf c hc') (by rw [upd_ne (ncell c hc'), upd_ne (ncell c hc')]; exact (hf c hc').1)) ⟨fun c hc' => ?_, ?_, ?_, ?_, .inl ⟨?_, ?_⟩⟩ ?_
    (same_seqL same2 hq1) (same_seqL same2 hq2) n1 n2 (But.of_same same2) upd_same fun H' s' ps I' b' e' lp pr => ⟨rfl, .ref s.heap.objs.size, H', I', rfl, hQ H' s.heap.objs.size ps (fun b o e => b' b o (ne_of_none e fr) e) fr e' lp pr⟩
  · rw [Heap.size_update, Heap.size_push]
    exact Nat.lt_succ_of_lt (szs c hc')
  · exact oth _ _ (ncell _ (by simp)) hTI
  · exact h1.at fun o q => oth _ _ (ncell _ (by simp)) q
  · exact h2.at fun o q => oth _ _ (ncell _ (by simp)) q
  · exact oth _ _ (ncell _ (by simp)) hz
  · obtain ⟨a, b, hTO⟩ := hTO
    exact ⟨a, b, oth _ _ (ncell _ (by simp)) hTO⟩
  · exact oth _ _ (ncell _ (by simp)) hz
def tLstZip (K : PySem.W.Frag) (ta : TA) : TE := fun σ H Q => ta σ H fun vs H1 => ∃ a b xs ys, vs = [.ref a, .ref b] ∧ SqL K H1 a xs ∧ SqL K H1 b ys ∧
  ∀ H' q ps, Same H1 H' → H1 q = none → H' q = some (.lst (ps.map V.ref)) → ps.length = min xs.length ys.length → Pairs H' xs ys q ps → Q (.ref q) H'
theorem pe_listZip (K : PySem.W.Frag) {e e2 : Expr} {ta : TA} {p pos p' pos' : Pos} (hc : X.calm = true) (hg : Gl X "list") (hm : X.mg "list" = none) (hg2 : Gl X "zip") (hm2 : X.mg "zip" = none) (ha : PA X [e, e2] ta)
    (hs : starEach [e, e2] X.env = (false, eval e X.env) :: starEach [e2] X.env := by rfl) (hpl : (backTo pos' (starEach [e2] X.env)).any (·.1) = false := by rfl)
    (na : starEach [.Call (.Name "zip" p') [e, e2] [] pos'] X.env = (false, eval (.Call (.Name "zip" p') [e, e2] [] pos') X.env) :: starEach [] X.env := by rfl) (hK : X.K = K := by rfl) :
    PE X (.Call (.Name "list" p) [.Call (.Name "zip" p') [e, e2] [] pos'] [] pos) (tLstZip K ta) := by
  subst hK
  refine ⟨fun pins s σ H Q I h => ?_⟩
  refine Call_ (ld_blt I hg hm boot_list (PyProof.Rows.callWith_type1 (args_cons ?_ na) na))
  refine Call_ (ld_blt I hg2 hm2 PyProof.Rows.boot_zip (PyProof.Rows.callWith_type1 (thn (ha.run pos' pins s σ H _ I h) fun us s1 ⟨vs, H1, I1, r1, q1⟩ => ?_) hs hpl))
  obtain ⟨a, b, xs, ys, ex, hqx, hqy, q⟩ := q1
  subst ex
  cases r1 with
  | cons r rr =>
    cases rr with
    | cons r' rr =>
      cases rr
      cases r
      cases r'
      obtain ⟨its, rv, p1, _⟩ := I1.list hqx
      obtain ⟨its2, rv2, p2, _⟩ := I1.list hqy
      refine call_zip_2 p1.isList p2.isList fun h' hz hTI hTO h1 h2 hsz hk => args_nil ?_
      have I2 : Inv X pins σ H1 { s1 with heap := h' } := I1.kept (t' := s1.toks) hk
      have cs : ∀ c, c ∈ [s1.heap.objs.size + 4, s1.heap.objs.size + 2, s1.heap.objs.size + 3, s1.heap.objs.size, s1.heap.objs.size + 1] → s1.heap.objs.size ≤ c ∧ c < s1.heap.objs.size + 5 := fun c hcm => by
        have e' : c = s1.heap.objs.size + 4 ∨ c = s1.heap.objs.size + 2 ∨ c = s1.heap.objs.size + 3 ∨ c = s1.heap.objs.size ∨ c = s1.heap.objs.size + 1 := by simpa using hcm
        omega
      exact call_list_zip hc (PySem.W.ktu_apart s1.heap.objs.size a b p1.lt p2.lt) I2 (fun c hcm => I1.fpOk (cs c hcm).1 (I1.hok.fresh (cs c hcm).1)) (fun c hcm => by show c < h'.objs.size; rw [hsz]; exact (cs c hcm).2) hz hTI ⟨_, _, hTO⟩ h1 h2 hqx hqy q
end
end RO

namespace RO
open PySem PySem.Spec PyProof.Rows L2
/-! ### xs[::2], a list of three -/
def tStep2 (K : PySem.W.Frag) (te : TE) : TE := fun σ H Q => te σ H fun v H1 => ∃ a x y z, v = .ref a ∧ SqL K H1 a [x, y, z] ∧ ∀ p, H1 p = none → Q (.ref p) (upd H1 p (.lst [x, z]))
theorem pick3 (u1 u2 u3 : Value) : slicePick [u1, u2, u3].toArray none none (some 2) = [u1, u3].toArray := by
  have b : sliceBounds none none (some 2) [u1, u2, u3].toArray.size = (0, 3, 2) := by rfl
  have r : sliceRange 0 3 2 = [0, 2] := by decide
  unfold slicePick
  rw [b]
  show ((sliceRange 0 3 2).filterMap _).toArray = _
  rw [r]
  rfl
theorem pe_step2 (K : PySem.W.Frag) {X : Cx} {e : Expr} {te : TE} {k : Nat} {p1 p3 pos : Pos} (he : PE X e te) (hK : X.K = K := by rfl) : PE X (.Subscript e (.Slice none none (some (.Constant (.int 2) k p1)) p3) pos) (tStep2 K te) := by
  subst hK
  refine ⟨fun pins s σ H Q I h => ?_⟩
  refine Subscript_ (thn (he.run pins s σ H _ I h) fun v s1 ⟨x0, H1, I1, r1, q1⟩ => ?_)
  obtain ⟨a, x, y, z, ex, hx, q⟩ := q1
  subst ex
  cases r1
  have hst : PO X (some (.Constant (.int 2) k p1)) (tPart (tC (.int 2))) := po_some pe_int
  refine wpAny_Slice (thn (po_none.run pins s1 σ H1 (fun o H2 => o = none ∧ H2 = H1) I1 ⟨rfl, rfl⟩) fun vl s2 ⟨l, H2, I2, pl, el, e2⟩ => ?_)
  subst el e2
  refine thn (po_none.run pins s2 σ H2 (fun o H3 => o = none ∧ H3 = H2) I2 ⟨rfl, rfl⟩) fun vu s3 ⟨u, H3, I3, pu, eu, e3⟩ => ?_
  subst eu e3
  refine thn (hst.run pins s3 σ H3 (fun o H4 => o = some 2 ∧ H4 = H3) I3 ⟨2, rfl, rfl, rfl⟩) fun vs s4 ⟨o, H4, I4, ps, eo, e4⟩ => ?_
  subst eo e4
  have I5 : Inv X pins σ H4 { s4 with heap := s4.heap.push { cls := .type "slice", data := .fields #[vl, vu, vs] } } := I4.kept (t' := s4.toks) fun b ob q => Heap.get?_push_of_some _ q
  obtain ⟨its, r, ht, hz⟩ := I5.list hx
  have hlen := r.length
  obtain ⟨u1, u2, u3, rfl, q1, q2, q3⟩ : ∃ u1 u2 u3, its = [u1, u2, u3] ∧ RelV x u1 ∧ RelV y u2 ∧ RelV z u3 := by
    cases r with
    | cons p q =>
      cases q with
      | cons p' q' =>
        cases q' with
        | cons p'' q'' =>
          cases q''
          exact ⟨_, _, _, rfl, p, p', p''⟩
  show wpAny (model X.prog X.w) X.A (subscriptTail e (.Slice none none (some (.Constant (.int 2) k p1)) p3) (.ref a) (.ref s4.heap.objs.size)) (EP X pins σ Q) X.xe { s4 with heap := s4.heap.push { cls := .type "slice", data := .fields #[vl, vu, vs] } }
  refine tail_any (ops := [.ref a, .ref s4.heap.objs.size]) ht.isList.typeIs (PySem.slot_list_getitem.lookup) ?_ (by with_unfolding_all rfl)
  refine wpAny_getItem_list_slice ht.isList (Heap.IsSliceOf.new _ vl vu vs) pl pu ps (by decide) ?_ (by rw [List.size_toArray]; omega)
  rw [pick3]
  refine ⟨.ref _, _, I5.laid (t' := s4.toks) (o := .lst [x, z]) (fun b ob q => Heap.get?_push_of_some _ q) (Nat.le_refl _) ?_, rfl, q _ (I5.hok.fresh (Nat.le_refl _))⟩
  exact ⟨by show 2 ≤ sizeLine; decide, _, 0, .cons q1 (.cons q3 .nil), Heap.get?_push_size _ rfl⟩
end RO

namespace RO
open PySem PySem.Spec PyProof.Rows L2 PySem.W
/-! ### min, max of a list of numbers, default= -/
theorem reads_ints {h : Heap} : ∀ {vs : List Value} {ns : List Int}, IntsAre vs ns → ReadsAll h vs (ns.map PyData.int) []
  | _, _, .nil => .nil
  | _, _, .cons n t r => .cons (as := []) (bs := []) (.int n t) (reads_ints r)
theorem alike_ints (ns : List Int) : AlikeAll (ns.map PyData.int) := by
  refine ⟨fun x hx y hy => ?_, fun x hx => ?_⟩
  · obtain ⟨a, _, rfl⟩ := List.mem_map.mp hx
    obtain ⟨b, _, rfl⟩ := List.mem_map.mp hy
    rfl
  · obtain ⟨a, _, rfl⟩ := List.mem_map.mp hx
    intro z
    cases z
theorem depth_ints : ∀ ns : List Int, PyData.depthAll (ns.map PyData.int) ≤ 1
  | [] => Nat.zero_le _
  | n :: r => Nat.max_le.mpr ⟨Nat.zero_le _, depth_ints r⟩
theorem min_fold (n : Int) (ns : List Int) : ns.foldl min n ∈ n :: ns ∧ ∀ y ∈ n :: ns, ns.foldl min n ≤ y := by
  induction ns generalizing n with
  | nil => exact ⟨by simp, fun y hy => by simp at hy; rw [hy]; exact Int.le_refl _⟩
  | cons k r ih =>
    obtain ⟨h1, h2⟩ := ih (min n k)
    show r.foldl min (min n k) ∈ _ ∧ _
    refine ⟨?_, fun y hy => ?_⟩
    · rcases List.mem_cons.mp h1 with z | z
      · rw [z]
        by_cases c : n ≤ k
        · rw [Int.min_eq_left c]; simp
        · rw [Int.min_eq_right (by omega)]; simp
      · exact List.mem_cons_of_mem _ (List.mem_cons_of_mem _ z)
    · have m := h2 (min n k) (List.mem_cons_self ..)
      show r.foldl min (min n k) ≤ y
      rcases List.mem_cons.mp hy with rfl | hy
      · omega
      · rcases List.mem_cons.mp hy with rfl | hy
        · omega
        · exact h2 y (List.mem_cons_of_mem _ hy)
theorem max_fold (n : Int) (ns : List Int) : ns.foldl max n ∈ n :: ns ∧ ∀ y ∈ n :: ns, y ≤ ns.foldl max n := by
  induction ns generalizing n with
  | nil => exact ⟨by simp, fun y hy => by simp at hy; rw [hy]; exact Int.le_refl _⟩
  | cons k r ih =>
    obtain ⟨h1, h2⟩ := ih (max n k)
    show r.foldl max (max n k) ∈ _ ∧ _
    refine ⟨?_, fun y hy => ?_⟩
    · rcases List.mem_cons.mp h1 with z | z
      · rw [z]
        by_cases c : n ≤ k
        · rw [Int.max_eq_right c]; simp
        · rw [Int.max_eq_left (by omega)]; simp
      · exact List.mem_cons_of_mem _ (List.mem_cons_of_mem _ z)
    · have m := h2 (max n k) (List.mem_cons_self ..)
      show y ≤ r.foldl max (max n k)
      rcases List.mem_cons.mp hy with rfl | hy
      · omega
      · rcases List.mem_cons.mp hy with rfl | hy
        · omega
        · exact h2 y (List.mem_cons_of_mem _ hy)
def rMinDef (K : PySem.W.Frag) (lt : Int → Int → Prop) : List V → List V → Hp → VK → Prop := fun vs zs H Q => ∃ (a : Addr) (ns : List Int) (d : Int), vs = [V.ref a] ∧ zs = [V.int d] ∧ SqL K H a (ns.map V.int) ∧ ∀ m, (ns = [] ∧ m = d ∨ m ∈ ns ∧ ∀ y ∈ ns, lt m y) → Q (.int m) H
theorem k_minDef (K : PySem.W.Frag) {X : Cx} (hc : X.calm = true) (hu : X.A.units + 64 < cLine) (hK : X.K = K := by rfl) : CallRK X (.builtin "min") [Str.ofString "default"] (rMinDef K fun m y => m ≤ y) := by
  subst hK
  intro pins s σ H vs zs us ws Q I r rz h
  obtain ⟨a, ns, d, rfl, rfl, hs, q⟩ := h
  obtain ⟨its, rv, hl, _⟩ := I.list hs
  rw [Vals.ref1 r]
  obtain ⟨w1, rfl, td, rfl⟩ := vals1 rz
  have dl := depth_ints ns
  refine min_list_default (I.ok.hd hc) hl.isList (reads_ints rv.ints) (alike_ints ns) (by omega) (fun e h' tk hk => ?_) fun y ys i v h' tk bs e hv rd hk => ?_
  · exact ⟨.int d, H, I.kept hk, ⟨_, rfl⟩, q d (.inl ⟨(by cases ns with | nil => rfl | cons a b => cases e), rfl⟩)⟩
  · cases ns with
    | nil => cases e
    | cons n r =>
      cases e
      rw [minD_ints] at rd
      obtain ⟨m1, m2⟩ := min_fold n r
      generalize r.foldl min n = m at *
      cases rd
      exact ⟨.int m, H, I.kept hk, ⟨_, rfl⟩, q m (.inr ⟨m1, m2⟩)⟩
theorem k_maxDef (K : PySem.W.Frag) {X : Cx} (hc : X.calm = true) (hu : X.A.units + 64 < cLine) (hK : X.K = K := by rfl) : CallRK X (.builtin "max") [Str.ofString "default"] (rMinDef K fun m y => y ≤ m) := by
  subst hK
  intro pins s σ H vs zs us ws Q I r rz h
  obtain ⟨a, ns, d, rfl, rfl, hs, q⟩ := h
  obtain ⟨its, rv, hl, _⟩ := I.list hs
  rw [Vals.ref1 r]
  obtain ⟨w1, rfl, td, rfl⟩ := vals1 rz
  have dl := depth_ints ns
  refine max_list_default (I.ok.hd hc) hl.isList (reads_ints rv.ints) (alike_ints ns) (by omega) (fun e h' tk hk => ?_) fun y ys i v h' tk bs e hv rd hk => ?_
  · exact ⟨.int d, H, I.kept hk, ⟨_, rfl⟩, q d (.inl ⟨(by cases ns with | nil => rfl | cons a b => cases e), rfl⟩)⟩
  · cases ns with
    | nil => cases e
    | cons n r =>
      cases e
      rw [maxD_ints] at rd
      obtain ⟨m1, m2⟩ := max_fold n r
      generalize r.foldl max n = m at *
      cases rd
      exact ⟨.int m, H, I.kept hk, ⟨_, rfl⟩, q m (.inr ⟨m1, m2⟩)⟩
end RO

namespace RO
open PySem PySem.Spec PyProof.Rows L2

/-! ### len of a set of numbers -/
def rLenSet (ww : World) : List V → Hp → VK → Prop := fun vs H Q => ∃ (p : Addr) (S : Int → Bool) (n : Nat) (ns : List Int), vs = [V.ref p] ∧ H p = some (SetO ww p S n) ∧ ns.Nodup ∧ (∀ k, S k = true ↔ k ∈ ns) ∧ Q (.int ns.length) H
theorem k_lenSet (ww : World) {X : Cx} (h2 : X.w = ww := by rfl) : CallR X (.builtin "len") (rLenSet ww) := by
  subst h2
  intro pins s σ H vs us Q I r h
  obtain ⟨p, S, n, ns, rfl, ha, nd, mem, q⟩ := h
  rw [Vals.ref1 r]
  obtain ⟨o, es, ep, t, ho, hx, hd, g, nk, hm, hb, hf, hn, _⟩ := setO_get I ha
  have pm : (es.toList.map keyOf).Perm ns := (List.perm_ext_iff_of_nodup nk nd).mpr fun k => (hm k).symm.trans (mem k)
  have le : es.size = ns.length := by
    rw [← pm.length_eq, List.length_map, Array.length_toList]
  have sb : scanBound ≤ 2 ^ 62 := by decide
  refine PySem.call_len_set ho hx hd hf (by omega) ⟨.int ns.length, H, I.tok _, ⟨_, by rw [le]⟩, q⟩
end RO

namespace RO
open PySem PySem.Spec PyProof.Rows L2

/-! ### a text taken once, or not at all -/
theorem op_str1 {X : Cx} : OpR X (binaryOp .Mult) (fun x y H Q => ∃ z n, x = .str z ∧ y = .int n ∧ -1000 ≤ n ∧ n ≤ 1 ∧ z.length ≤ sizeLine ∧ Q (.str (if n < 1 then Str.empty else z)) H) := by
  intro pins s σ H x y v u Q I rx ry h
  obtain ⟨z, n, rfl, rfl, h1, h2, hz, q⟩ := h
  obtain ⟨t, rfl⟩ := rx
  obtain ⟨t', rfl⟩ := ry
  have one : ¬ n < 1 → (n == 1 || z.length == 0) = true := fun g => by
    have : n = 1 := by omega
    subst this
    rfl
  refine PySem.P.mul_str ?_ (fun g e => ?_) (fun g e => ?_) ?_
  · rw [decide_eq_false (by omega), decide_eq_false (by omega)]
    rfl
  · rw [one g] at e
    cases e
  · rw [one g] at e
    cases e
  · by_cases c : n < 1
    · rw [if_pos c] at q ⊢
      exact ⟨by decide, .str Str.empty, H, I.tok _, ⟨_, rfl⟩, q⟩
    · rw [if_neg c] at q ⊢
      rw [if_pos (one c)]
      exact ⟨.str z, H, I, ⟨_, rfl⟩, q⟩

/-! ### a number's figures, two at least -/
def pad2 (i : Int) : Str := if i < 10 then Str.ofString "0" ++ Str.ofString (toString i) else Str.ofString (toString i)
theorem figs {i : Int} (h : 0 ≤ i) : Str.ofString (toString i) = ⟨((Nat.toDigits 10 i.toNat).map Char.toNat).toArray⟩ := by
  obtain ⟨m, rfl⟩ := Int.eq_ofNat_of_zero_le h
  exact text_ofNat m
theorem figs_len {i : Int} (h : 0 ≤ i) : (Str.ofString (toString i)).length = (Nat.toDigits 10 i.toNat).length := by
  rw [figs h]
  show (((Nat.toDigits 10 i.toNat).map Char.toNat).toArray).size = _
  simp
theorem figs_fits {i : Int} (h0 : 0 ≤ i) (h1 : i < 1000000) : (Str.ofString (toString i)).length ≤ 6 := by
  rw [figs_len h0]
  exact digits10_le (by decide) (by omega)
theorem len_app (a b : Str) : (a ++ b).length = a.length + b.length := strLen_append a b
theorem pad2_fits {i : Int} (h0 : 0 ≤ i) (h1 : i < 1000000) : (pad2 i).length ≤ 7 := by
  have l := figs_fits h0 h1
  unfold pad2
  split
  · rw [len_app]
    have : (Str.ofString "0").length = 1 := by decide +kernel
    omega
  · omega
def f02 : Builtin.Float.FormatSpec := { fill := 48, align := 61, width := some 2, type := some 100 }
theorem parse02 : Builtin.Float.parseFormatSpec (⟨#[48, 50, 100]⟩ : Str).cps.toList "int" 62 = .ok f02 := by kernel_rfl
theorem lg_small {i : Int} (h : i.natAbs < 1048576) : i.natAbs.log2 < 1920 := by
  by_cases z : i.natAbs = 0
  · rw [z]
    decide +kernel
  · exact (Nat.log2_lt z).mpr (Nat.lt_of_lt_of_le (show i.natAbs < 2 ^ 20 by omega) (Nat.pow_le_pow_right (by decide) (show 20 ≤ 1920 by decide)))
theorem meets02 {a : Int} {t : Tok} (h0 : 0 ≤ a) (h1 : a < 1000000) : ∀ u, Meets (Builtin.«int.__format__» ⟨[.int a t, .str ⟨#[48, 50, 100]⟩ u], []⟩) (fun _ R s => ∀ t' k, R (.ok (.ret (.str (pad2 a) t'))) { s with toks := k }) := by
  intro _
  apply PySem.W.KPc.meets_of
  intro _ _ _ _ _ _ _
  unfold Builtin.«int.__format__»
  refine wpAny_bind (wpAny_of_eq (a := (_, _)) rfl ?_)
  refine wpAny_bind (wpAny_of_eq (a := _) rfl ?_)
  kxf_if
  refine wpAny_bind (wpAny_typeNameOf (T := "str") (typeIs_str _ _ _) (by decide) fun _ => ?_)
  refine wpAny_bind (wpAny_of_eq (a := some _) rfl ?_)
  kxf_if
  kxf_if
  refine wpAny_bind (wpAny_typeNameOfCut_int ?_)
  rw [parse02]
  kxf_if
  (repeat kxf_if)
  have small : a.natAbs.log2 < 1920 := by
    by_cases z : a.natAbs = 0
    · rw [z]
      decide +kernel
    · exact (Nat.log2_lt z).mpr (Nat.lt_of_lt_of_le (show a.natAbs < 2 ^ 20 by omega) (Nat.pow_le_pow_right (by decide) (show 20 ≤ 1920 by decide)))
  refine wpAny_bind (wpAny_of_eq (PySem.overDigitLimit_small small) ?_)
  (repeat kxf_if)
  refine (fun e => PySem.W.KXf.ret_text (T := pad2 a) e (by rw [e]; exact Nat.le_trans (pad2_fits h0 h1) (by decide)) ?_) ?_
  · assumption
  · refine Eq.trans (b := intSpecText f02 a) (by with_unfolding_all rfl) ?_
    rw [intSpecText_zero rfl rfl rfl rfl h0]
    show (⟨(List.replicate (2 - (Nat.toDigits 10 a.natAbs).length) 48).toArray⟩ : Str) ++ Str.ofString (toString a) = pad2 a
    have D := digitsFacts10 a.natAbs
    have l1 := D.ge1
    unfold pad2
    by_cases c : a < 10
    · rw [if_pos c, D.lt10 (by omega)]
      rfl
    · have l2 := D.ge10 (by omega)
      rw [if_neg c, show 2 - (Nat.toDigits 10 a.natAbs).length = 0 by omega]
      exact Str.empty_append _
section
variable {X : Cx}
/-- {x:02d} -/
def tFmt02 (te : TE) : TE := fun σ H Q => te σ H fun x H1 => ∃ i : Int, x = .int i ∧ 0 ≤ i ∧ i < 1000000 ∧ Q (.str (pad2 i)) H1
theorem pe_fmt02 {e sp : Expr} {te : TE} {pos : Pos} (he : PE X e te) (hs : PE X sp (tC (.str (Str.ofString "02d")))) : PE X (.FormattedValue e (-1) (some sp) pos) (tFmt02 te) := by
  refine ⟨fun pins s σ H Q I h => ?_⟩
  refine wpAny_FormattedValue_spec (thn (he.run pins s σ H _ I h) fun v s1 hv => ?_)
  obtain ⟨x, H1, I1, r1, i, rfl, i0, i1, q⟩ := hv
  obtain ⟨t, rfl⟩ := r1
  refine thn (hs.run pins s1 σ H1 (fun x H2 => x = .str (Str.ofString "02d") ∧ H2 = H1) I1 ⟨rfl, rfl⟩) fun r s2 hr => ?_
  obtain ⟨x2, H2, I2, r2, rfl, rfl⟩ := hr
  obtain ⟨t2, rfl⟩ := r2
  exact ⟨_, t2, rfl, PySem.W.KXf.field_int (spec' := ⟨#[48, 50, 100]⟩) (by decide +kernel) rfl (by decide) (meets02 i0 i1) fun t' k => ⟨.str (pad2 i), _, I2.tok k, ⟨_, rfl⟩, q⟩⟩
/-- the parts of an f-string, named -/
def tJd (ts : List TE) : TE := fun σ H Q => tJs ts Str.empty σ H fun out H1 => Q (.str out) H1
theorem pe_joinedN {v1 v2 : Expr} {rest : List Expr} {ts : List TE} {pos : Pos} (h : PJ X (v1 :: v2 :: rest) ts) : PE X (.JoinedStr (v1 :: v2 :: rest) pos) (tJd ts) := pe_joined h
end
end RO

namespace RO
open PySem PySem.Spec PyProof.Rows L2

/-! ### d.get(k), k a number, a text or None -/
theorem leaf_of {prog : Program} {w : World} {h : Heap} {a : Addr} {vs : List (Key × Value)} (dd : h.DictOf (mixKind prog w) a vs) : ∃ f : Leaf → Option Value, h.MapOf (leafKind prog w) a f ∧ f .none = none := by
  obtain ⟨o, es, ep, h1, h2, h3, h4, h5, h6⟩ := dd
  refine ⟨fun k => findBy (leafKind prog w).is es k, ⟨o, es, ep, h1, h2, h3, fun e he => ?_, fun _ => rfl⟩, ?_⟩
  · obtain ⟨k, k1, k2⟩ := h4 e he
    rcases keyIs_shape k1 with ⟨i, t, rfl, z⟩ | ⟨x, t, rfl, z⟩
    · refine ⟨.num i, by rw [z]; exact decide_eq_true rfl, k2⟩
    · refine ⟨.text x, by rw [z] at k1 ⊢; exact k1, k2⟩
  · show (es.find? fun e => (leafKind prog w).is Leaf.none e.key).map _ = none
    rw [Array.find?_eq_none.mpr fun e he => ?_]
    · rfl
    · obtain ⟨k, k1, _⟩ := h4 e he
      rcases keyIs_shape k1 with ⟨i, t, rfl, z⟩ | ⟨x, t, rfl, z⟩
      · rw [z]
        exact Bool.false_ne_true
      · rw [z]
        exact Bool.false_ne_true
section
variable {X : Cx} {o e : Expr} {apos cpos : Pos} {td ty : TE}
/-- what a dict tells for a key, or for None -/
def tDGetN (td ty : TE) : TE := fun σ H Q => td σ H fun x H1 => ∃ a, x = .ref a ∧ IsD H1 a ∧ ty σ H1 fun y H2 => ∃ kvs, H2 a = some (.dK kvs) ∧ ((∃ k, y = kV k ∧ Q ((valV kvs k).getD .non) H2) ∨ y = .non ∧ Q .non H2)
theorem pe_dgetN (hu : X.A.units + 1 < cLine) (ho : PE X o td) (he : PE X e ty) (m : M1 X o "get" apos e cpos) : PE X (.Call (.Attribute o "get" apos) [e] [] cpos) (tDGetN td ty) := by
  refine ⟨fun pins s σ H Q I h => ?_⟩
  refine wpAny_Call_method m.base m.few m.line PySem.F.plainAttrs_dict PySem.F.slot_dict_get PySem.F.type_dict_get (thn (ho.run pins s σ H _ I h) fun u s1 ⟨x, H1, I1, rx, a, ex, d, q1⟩ => ?_)
  subst ex
  obtain rfl : u = Value.ref a := rx
  obtain ⟨t1, t2, _⟩ := isD_at I1 d
  refine ⟨t1, t2, ?_⟩
  rw [m.trees]
  refine Calls.callWith_builtin rfl (Calls.evalArgs_plain (Calls.spliced_cons (thn (he.run pins s1 σ H1 _ I1 q1) fun iv s2 ⟨y, H2, I2, ry, kvs, e2, q2⟩ => Calls.spliced_nil ?_)))
  rcases q2 with ⟨k, rfl, q2⟩ | ⟨rfl, q2⟩
  · exact d_get1 hu I2 (DGet.k e2) ry fun w' s3 I3 rw' => ⟨_, H2, I3, rw', q2⟩
  · obtain rfl : iv = Value.none := ry
    obtain ⟨z, hd, vs, rel, dd⟩ := dk_of I2.hok e2
    obtain ⟨f, fm, fn⟩ := leaf_of dd
    refine call_meetsIn PySem.F.slot_dict_get dd.typeIs PySem.F.entry_dict_get (PySem.F.args_dict_get_2 _ _) (meets_dict_get (leafKind X.prog X.w) (k := Leaf.none) a rfl hd) ⟨f, fm, .non, H2, I2.tok _, ?_, q2⟩
    rw [fn]
    rfl
end
/-! ### dict(xs) of pairs -/
theorem k_dictP (K : PySem.W.Frag) {X : Cx} (hc : X.calm = true) (h : X.K = K := by rfl) : CallR X (.type "dict") (fun xs H Q => ∃ (a : Addr) (ps : List Addr) (kvs : List (Key × V)), xs = [.ref a] ∧ SqL K H a (ps.map V.ref) ∧ Paired (fun p kv => SqT K H p [kV kv.1, kv.2]) ps kvs ∧
    ∀ p, H p = none → Q (.ref p) (upd H p (.dK (mergeK [] kvs)))) := by
  subst h
  exact call_dictP hc
end RO

namespace RO
open PySem PySem.Spec PyProof.Rows L2

/-! ### a tuple taken so often -/
theorem k_repT (K : PySem.W.Frag) {X : Cx} (h : X.K = K := by rfl) : OpR X (binaryOp .Mult) (rRepT K) := by
  subst h
  exact op_repT

/-! ### cards -/
inductive CardsOf (R : Addr → Str → PyData → Nat → Prop) : List Addr → List Str → List PyData → Nat → Prop
  | nil : CardsOf R [] [] [] 0
  | cons {b : Addr} {t : Str} {x : PyData} {c : Nat} {bs : List Addr} {ts : List Str} {xs : List PyData} {cs : Nat} : R b t x c → CardsOf R bs ts xs cs → CardsOf R (b :: bs) (t :: ts) (x :: xs) (c + cs)
section
variable {R S : Addr → Str → PyData → Nat → Prop} {bs : List Addr} {ts : List Str} {xs : List PyData} {cs : Nat}
theorem CardsOf.snoc {b : Addr} {t : Str} {x : PyData} {c : Nat} (h : CardsOf R bs ts xs cs) (h2 : R b t x c) : CardsOf R (bs ++ [b]) (ts ++ [t]) (xs ++ [x]) (cs + c) := by
  induction h with
  | nil =>
    rw [Nat.add_comm]
    exact .cons h2 .nil
  | cons a _ ih =>
    rw [Nat.add_assoc]
    exact .cons a ih
theorem CardsOf.imp (h : CardsOf R bs ts xs cs) (f : ∀ b t x c, R b t x c → S b t x c) : CardsOf S bs ts xs cs := by
  induction h with
  | nil => exact .nil
  | cons a _ ih => exact .cons (f _ _ _ _ a) ih
theorem CardsOf.len (h : CardsOf R bs ts xs cs) : ts.length = bs.length ∧ xs.length = bs.length := by
  induction h with
  | nil => exact ⟨rfl, rfl⟩
  | cons _ _ ih => exact ⟨congrArg (· + 1) ih.1, congrArg (· + 1) ih.2⟩
theorem CardsOf.at_ (h : CardsOf R bs ts xs cs) : ∀ {i : Nat} {b : Addr}, bs[i]? = some b → ∃ t x c, ts[i]? = some t ∧ R b t x c ∧ c ≤ cs := by
  induction h with
  | nil => intro i b e; simp at e
  | @cons b t x c bs ts xs cs a _ ih =>
    intro i b e
    cases i with
    | zero =>
      obtain rfl := Option.some.inj e
      exact ⟨t, x, c, rfl, a, by omega⟩
    | succ i =>
      obtain ⟨t', x', c', h1, h2, h3⟩ := ih e
      exact ⟨t', x', c', h1, h2, by omega⟩
end
def engs : List Str := ["port", "star"]
def cardRow (ts : List Str) : Str := Str.ofString "(" ++ Txt.join (Str.ofString "; ") ts ++ Str.ofString ")"
def orderTs : List Str := ["-full", "-half", "-slow", "-dead", "stop", "+dead", "+slow", "+half", "+full"]
def orderT (o : Int) : Str := orderTs.getD (o + 4).toNat Str.empty
/-- a card at most so deep stands at a, its text, its data, how many cards there are -/
def CardAt (K : PySem.W.Frag) (H : Hp) : Nat → Addr → Str → PyData → Nat → Prop
  | 0 => fun _ _ _ _ => False
  | d + 1 => fun a t x c =>
    (∃ (e : Str) (o : Int), SqT K H a [.str "ring", .str e, .int o] ∧ e ∈ engs ∧ -4 ≤ o ∧ o ≤ 4 ∧ t = e ++ Str.ofString " " ++ orderT o ∧ x = .tuple [.str "ring", .str e, .int o] ∧ c = 1)
    ∨ (∃ n : Int, SqT K H a [.str "wait", .int n] ∧ 1 ≤ n ∧ n ≤ 999 ∧ t = Str.ofString "wait " ++ Str.ofString (toString n) ∧ x = .tuple [.str "wait", .int n] ∧ c = 1)
    ∨ (∃ (n : Int) (b : Addr) (t' : Str) (x' : PyData) (c' : Nat), SqT K H a [.str "again", .int n, .ref b] ∧ 0 ≤ n ∧ n ≤ 1000000000 ∧ CardAt K H d b t' x' c' ∧ t = Str.ofString (toString n) ++ Str.ofString "*" ++ t' ∧ x = .tuple [.str "again", .int n, x'] ∧ c = c' + 1)
    ∨ (∃ (q : Addr) (bs : List Addr) (ts : List Str) (xs : List PyData) (c' : Nat), SqT K H a [.str "row", .ref q] ∧ SqT K H q (bs.map V.ref) ∧ bs.length ≤ 6 ∧ CardsOf (CardAt K H d) bs ts xs c' ∧ t = cardRow ts ∧ x = .tuple [.str "row", .tuple xs] ∧ c = c' + 1)
section
variable {K : PySem.W.Frag} {H H1 : Hp}
theorem card_imp (f : ∀ a xs, SqT K H a xs → SqT K H1 a xs) : ∀ (d : Nat) (a : Addr) (t : Str) (x : PyData) (c : Nat), CardAt K H d a t x c → CardAt K H1 d a t x c
  | 0, _, _, _, _, h => False.elim h
  | d + 1, a, t, x, c, h => by
    rcases h with ⟨e, o, h1, h2⟩ | ⟨n, h1, h2⟩ | ⟨n, b, t', x', c', h1, h2, h3, h4, h5⟩ | ⟨q, bs, ts, xs, c', h1, h2, h3, h4, h5⟩
    · exact .inl ⟨e, o, f _ _ h1, h2⟩
    · exact .inr (.inl ⟨n, f _ _ h1, h2⟩)
    · exact .inr (.inr (.inl ⟨n, b, t', x', c', f _ _ h1, h2, h3, card_imp f d _ _ _ _ h4, h5⟩))
    · exact .inr (.inr (.inr ⟨q, bs, ts, xs, c', f _ _ h1, f _ _ h2, h3, h4.imp (card_imp f d), h5⟩))
theorem card_same (s : Same H H1) {d : Nat} {a : Addr} {t : Str} {x : PyData} {c : Nat} (h : CardAt K H d a t x c) : CardAt K H1 d a t x c := card_imp (fun _ _ q => same_seqT s q) d a t x c h
theorem card_up : ∀ (d : Nat) (a : Addr) (t : Str) (x : PyData) (c : Nat), CardAt K H d a t x c → CardAt K H (d + 1) a t x c
  | 0, _, _, _, _, h => h.elim
  | d + 1, a, t, x, c, h => by
    rcases h with ⟨e, o, h1, h2⟩ | ⟨n, h1, h2⟩ | ⟨n, b, t', x', c', h1, h2, h3, h4, h5⟩ | ⟨q, bs, ts, xs, c', h1, h2, h3, h4, h5⟩
    · exact .inl ⟨e, o, h1, h2⟩
    · exact .inr (.inl ⟨n, h1, h2⟩)
    · exact .inr (.inr (.inl ⟨n, b, t', x', c', h1, h2, h3, card_up d _ _ _ _ h4, h5⟩))
    · exact .inr (.inr (.inr ⟨q, bs, ts, xs, c', h1, h2, h3, h4.imp (card_up d), h5⟩))
theorem card_deeper {d e : Nat} (h : d ≤ e) {a : Addr} {t : Str} {x : PyData} {c : Nat} (q : CardAt K H d a t x c) : CardAt K H e a t x c := by
  induction e with
  | zero =>
    obtain rfl : d = 0 := by omega
    exact q
  | succ e ih =>
    by_cases z : d = e + 1
    · exact z ▸ q
    · exact card_up _ _ _ _ _ (ih (by omega))
theorem card_pos : ∀ {d : Nat} {a : Addr} {t : Str} {x : PyData} {c : Nat}, CardAt K H d a t x c → 1 ≤ c
  | 0, _, _, _, _, h => h.elim
  | d + 1, a, t, x, c, h => by
    rcases h with ⟨e, o, h1, h2, h3, h4, h5, h6, h7⟩ | ⟨n, h1, h2, h3, h4, h5, h6⟩ | ⟨n, b, t', x', c', h1, h2, h3, h4, h5, h6, h7⟩ | ⟨q, bs, ts, xs, c', h1, h2, h3, h4, h5, h6, h7⟩ <;> omega
theorem orderT_fits (o : Int) : (orderT o).length ≤ 5 := by
  unfold orderT
  rcases z : orderTs[(o + 4).toNat]? with _ | t
  · rw [List.getD_eq_getElem?_getD, z]
    decide +kernel
  · rw [List.getD_eq_getElem?_getD, z]
    have := List.mem_of_getElem? z
    exact (show ∀ t ∈ orderTs, t.length ≤ 5 by decide +kernel) t this
theorem engine_fits {e : Str} (h : e ∈ engs) : TOk 4 e := by
  have he2 : e = "port" ∨ e = "star" := by simpa [engs] using h
  rcases he2 with rfl | rfl <;> exact ⟨by decide +kernel, by decide +kernel⟩
theorem figs_fits9 {i : Int} (h0 : 0 ≤ i) (h1 : i ≤ 1000000000) : (Str.ofString (toString i)).length ≤ 10 := by
  rw [figs_len h0]
  exact digits10_le (by decide) (by omega)
theorem join_len (sep : Str) : ∀ ts : List Str, (Txt.join sep ts).length ≤ (ts.map (·.length)).sum + ts.length * sep.length := fun ts => by
  rw [TL.join_eq]
  induction ts with
  | nil => exact Nat.zero_le _
  | cons t ts ih =>
    cases ts with
    | nil =>
      show t.length ≤ _
      simp
    | cons u us =>
      show (t ++ sep ++ Str.join sep (u :: us)).length ≤ _
      rw [len_app, len_app]
      simp only [List.map_cons, List.sum_cons, List.length_cons] at ih ⊢
      have : (us.length + 1 + 1) * sep.length = (us.length + 1) * sep.length + sep.length := Nat.succ_mul _ _
      omega
theorem cards_len {R : Addr → Str → PyData → Nat → Prop} (f : ∀ b t x c, R b t x c → t.length ≤ 20 * c) {bs : List Addr} {ts : List Str} {xs : List PyData} {cs : Nat} (h : CardsOf R bs ts xs cs) : (ts.map (·.length)).sum ≤ 20 * cs := by
  induction h with
  | nil => exact Nat.le_refl _
  | cons a _ ih =>
    have := f _ _ _ _ a
    rw [List.map_cons, List.sum_cons]
    omega
theorem card_len : ∀ (d : Nat) (a : Addr) (t : Str) (x : PyData) (c : Nat), CardAt K H d a t x c → t.length ≤ 20 * c
  | 0, _, _, _, _, h => h.elim
  | d + 1, a, t, x, c, h => by
    have b1 : (Str.ofString " ").length = 1 := by decide +kernel
    have b2 : (Str.ofString "wait ").length = 5 := by decide +kernel
    have b3 : (Str.ofString "*").length = 1 := by decide +kernel
    have b4 : (Str.ofString "(").length = 1 := by decide +kernel
    have b5 : (Str.ofString ")").length = 1 := by decide +kernel
    have b6 : (Str.ofString "; ").length = 2 := by decide +kernel
    rcases h with ⟨e, o, h1, h2, h3, h4, h5, h6, h7⟩ | ⟨n, h1, h2, h3, h4, h5, h6⟩ | ⟨n, b, t', x', c', h1, h2, h3, h4, h5, h6, h7⟩ | ⟨q, bs, ts, xs, c', h1, h2, h3, h4, h5, h6, h7⟩
    · have := (engine_fits h2).1
      have := orderT_fits o
      rw [h5, len_app, len_app]
      omega
    · have := figs_fits9 (i := n) (by omega) (by omega)
      rw [h4, len_app]
      omega
    · have := figs_fits9 (i := n) (by omega) (by omega)
      have := card_len d _ _ _ _ h4
      rw [h5, len_app, len_app]
      omega
    · have z := cards_len (card_len d) h4
      have y := join_len (Str.ofString "; ") ts
      have := h4.len.1
      rw [b6] at y
      rw [h5]
      unfold cardRow
      rw [len_app, len_app]
      omega
theorem RepOk.tupleS {ds : List PyData} {k n : Nat} (h1 : PyData.showableAll ds = true) (h2 : PyData.hasDictAll ds = false) (h3 : PyData.depthAll ds ≤ k) (h4 : PyData.leavesShortAll 400 ds = true) (h6 : PyData.canLayAll0 ds = true) (h5 : PyData.bulkAll ds ≤ n) : RepOk (.tuple ds) (k + 1) n :=
  ⟨by simpa only [PyData.showable] using h1, by simpa only [PyData.hasDict] using h2, by simp only [PyData.depth]; omega, by simpa only [PyData.leavesShort] using h4, by simpa only [PyData.canLay0] using h6, by simpa only [PyData.bulk] using h5⟩
theorem RepOk.pair {a b : PyData} {k m n : Nat} (ha : RepOk a k m) (hb : RepOk b k n) : RepOk (.tuple [a, b]) (k + 1) (m + n + 2) := by
  refine RepOk.tupleS ?_ ?_ ?_ ?_ ?_ ?_
  · simp only [PyData.showableAll, ha.sh, hb.sh, Bool.and_self]
  · simp only [PyData.hasDictAll, ha.nd, hb.nd, Bool.or_self]
  · have := ha.dp
    have := hb.dp
    simp only [PyData.depthAll]
    omega
  · simp only [PyData.leavesShortAll, ha.lv, hb.lv, Bool.and_self]
  · simp only [PyData.canLayAll0, ha.cl, hb.cl, Bool.and_self]
  · have := ha.bk
    have := hb.bk
    simp only [PyData.bulkAll]
    omega
theorem RepOk.three {a b c : PyData} {k m n l : Nat} (ha : RepOk a k m) (hb : RepOk b k n) (hc : RepOk c k l) : RepOk (.tuple [a, b, c]) (k + 1) (m + n + l + 3) := by
  refine RepOk.tupleS ?_ ?_ ?_ ?_ ?_ ?_
  · simp only [PyData.showableAll, ha.sh, hb.sh, hc.sh, Bool.and_self]
  · simp only [PyData.hasDictAll, ha.nd, hb.nd, hc.nd, Bool.or_self]
  · have := ha.dp
    have := hb.dp
    have := hc.dp
    simp only [PyData.depthAll]
    omega
  · simp only [PyData.leavesShortAll, ha.lv, hb.lv, hc.lv, Bool.and_self]
  · simp only [PyData.canLayAll0, ha.cl, hb.cl, hc.cl, Bool.and_self]
  · have := ha.bk
    have := hb.bk
    have := hc.bk
    simp only [PyData.bulkAll]
    omega
theorem cards_rep {R : Addr → Str → PyData → Nat → Prop} {k : Nat} (f : ∀ b t x c, R b t x c → Dp K H (.ref b) x ∧ RepOk x k (28 * c)) {bs : List Addr} {ts : List Str} {xs : List PyData} {cs : Nat} (h : CardsOf R bs ts xs cs) :
    DpAll K H (bs.map V.ref) xs ∧ PyData.showableAll xs = true ∧ PyData.hasDictAll xs = false ∧ PyData.depthAll xs ≤ k ∧ PyData.leavesShortAll 400 xs = true ∧ PyData.canLayAll0 xs = true ∧ PyData.bulkAll xs ≤ 28 * cs + bs.length := by
  induction h with
  | nil => exact ⟨.nil, rfl, rfl, Nat.zero_le _, rfl, rfl, Nat.zero_le _⟩
  | cons a _ ih =>
    obtain ⟨i0, h1, h2, h3, h4, h6, h5⟩ := ih
    obtain ⟨d0, q⟩ := f _ _ _ _ a
    refine ⟨.cons d0 i0, ?_, ?_, ?_, ?_, ?_, ?_⟩
    · simp only [PyData.showableAll, q.sh, h1, Bool.and_self]
    · simp only [PyData.hasDictAll, q.nd, h2, Bool.or_self]
    · simp only [PyData.depthAll]
      exact Nat.max_le.mpr ⟨q.dp, h3⟩
    · simp only [PyData.leavesShortAll, q.lv, h4, Bool.and_self]
    · simp only [PyData.canLayAll0, q.cl, h6, Bool.and_self]
    · simp only [PyData.bulkAll, List.length_cons]
      have b := q.bk
      omega
theorem card_rep : ∀ (d : Nat) (a : Addr) (t : Str) (x : PyData) (c : Nat), CardAt K H d a t x c → Dp K H (.ref a) x ∧ RepOk x (2 * d) (28 * c)
  | 0, _, _, _, _, h => h.elim
  | d + 1, a, t, x, c, h => by
    have wd : ∀ s ∈ (["ring", "wait", "again", "row"] : List Str), TOk 5 s := by
      unfold TOk
      decide +kernel
    rcases h with ⟨e, o, h1, h2, h3, h4, h5, h6, h7⟩ | ⟨n, h1, h2, h3, h4, h5, h6⟩ | ⟨n, b, t', x', c', h1, h2, h3, h4, h5, h6, h7⟩ | ⟨q, bs, ts, xs, c', h1, h2, h3, h4, h5, h6, h7⟩
    · subst h6 h7
      exact ⟨.tup h1 (.cons (.str _) (.cons (.str _) (.cons (.int _) .nil))), ((RepOk.three (RepOk.tok (wd "ring" (by simp))) (RepOk.tok (engine_fits h2)) (RepOk.int (by omega))).mono (by omega) (by omega))⟩
    · subst h5 h6
      exact ⟨.tup h1 (.cons (.str _) (.cons (.int _) .nil)), ((RepOk.pair (RepOk.tok (wd "wait" (by simp))) (RepOk.int (by omega))).mono (by omega) (by omega))⟩
    · subst h6 h7
      obtain ⟨d0, r0⟩ := card_rep d _ _ _ _ h4
      exact ⟨.tup h1 (.cons (.str _) (.cons (.int _) (.cons d0 .nil))), ((RepOk.three ((RepOk.tok (wd "again" (by simp))).mono (Nat.zero_le _) (Nat.le_refl _)) ((RepOk.int (i := n) (by omega)).mono (Nat.zero_le _) (Nat.le_refl _)) r0).mono (by omega) (by omega))⟩
    · subst h6 h7
      obtain ⟨d0, e1, e2, e3, e4, e6, e5⟩ := cards_rep (card_rep d) h4
      exact ⟨.tup h1 (.cons (.str _) (.cons (.tup h2 d0) .nil)), ((RepOk.pair ((RepOk.tok (wd "row" (by simp))).mono (Nat.zero_le _) (Nat.le_refl _)) (RepOk.tupleS e1 e2 e3 e4 e6 e5)).mono (by omega) (by omega))⟩
end
end RO

namespace RO
open PySem PySem.Spec PyProof.Rows L2

/-! ### data with dicts of at most one pair in it, and no list -/
def keyD : Key → PyData
  | .inl i => .int i
  | .inr t => .str t
mutual
inductive Td (K : PySem.W.Frag) (H : Hp) : V → PyData → Prop
  | non : Td K H .non .none
  | bl (b : Bool) : Td K H (.bl b) (.bool b)
  | int (i : Int) : Td K H (.int i) (.int i)
  | str (t : Str) : Td K H (.str t) (.str t)
  | tup {a : Addr} {xs : List V} {ds : List PyData} : SqT K H a xs → TdAll K H xs ds → Td K H (.ref a) (.tuple ds)
  | d0 {a : Addr} : H a = some (.dK []) → Td K H (.ref a) (.dict [])
  | d1 {a : Addr} {k : Key} {x : V} {e : PyData} : H a = some (.dK [(k, x)]) → Td K H x e → Td K H (.ref a) (.dict [(keyD k, e)])
inductive TdAll (K : PySem.W.Frag) (H : Hp) : List V → List PyData → Prop
  | nil : TdAll K H [] []
  | cons {v : V} {vs : List V} {d : PyData} {ds : List PyData} : Td K H v d → TdAll K H vs ds → TdAll K H (v :: vs) (d :: ds)
end
section
variable {X : Cx} {pins : List (Addr × Obj)} {σ : L2.St} {H : Hp} {s : Shared}
theorem keyD_reads {k : Key} {v : Value} {h : Heap} (e : keyIs k v = true) : Reads h v (keyD k) [] := by
  rcases keyIs_shape e with ⟨i, t, rfl, rfl⟩ | ⟨x, t, rfl, rfl⟩
  · exact .int i t
  · exact .str x t
theorem sys_ne2 {a : Addr} (h : (a == sysModules) = false) : sysModules ≠ a := fun z => by
  rw [← z] at h
  simp at h
mutual
theorem Td.reads (I : Inv X pins σ H s) : ∀ (d : PyData) (v : V) (u : Value), Td X.K H v d → RelV v u → ∃ as, Reads s.heap u d as ∧ sysModules ∉ as
  | .none, _, _, h, r => by
    cases h
    cases r
    exact ⟨_, Reads.none, by simp⟩
  | .bool b, _, _, h, r => by
    cases h
    cases r
    exact ⟨_, Reads.bool b, by simp⟩
  | .int i, _, _, h, r => by
    cases h
    obtain ⟨t, rfl⟩ := r
    exact ⟨_, Reads.int i t, by simp⟩
  | .str x, _, _, h, r => by
    cases h
    obtain ⟨t, rfl⟩ := r
    exact ⟨_, Reads.str x t, by simp⟩
  | .list ds, _, _, h, r => by cases h
  | .tuple ds, _, _, h, r => by
    cases h with
    | tup hs ha =>
      cases r
      obtain ⟨its, rv, ⟨o, ho, hc, n, hd⟩, _⟩ := I.tuple hs
      obtain ⟨as, hr, hn⟩ := Td.readsAll I ds _ its ha rv
      exact ⟨_, Reads.tuple ho hc hd hr, hn⟩
  | .dict [], _, _, h, r => by
    cases h with
    | d0 ha =>
      cases r
      obtain ⟨_, hs, vs, rel, o, es, ep, ho, hx, hdat, hk, hp, _⟩ := dk_of I.hok ha
      cases rel
      have he : es.toList = [] := by
        have := hp.length
        exact List.eq_nil_of_length_eq_zero this
      exact ⟨_, Reads.dict ho hx.1 hdat (by rw [he]; exact .nil) (by rw [he]; exact .nil), by simpa using sys_ne2 hs⟩
  | .dict [(kd, e)], _, _, h, r => by
    cases h with
    | @d1 a k x _ ha hsc =>
      cases r
      obtain ⟨_, hs, vs, rel, o, es, ep, ho, hx, hdat, hk, hp, _⟩ := dk_of I.hok ha
      cases rel with
      | @cons _ qv _ _ r1 r2 =>
        cases r2
        obtain ⟨er, rx⟩ := r1
        generalize hes : es.toList = el at hp
        cases hp with
        | @cons en _ _ _ p1 p2 p3 =>
          cases p3
          have er : k = qv.1 := er
          have rx : RelV x qv.2 := rx
          obtain ⟨bs, rv, nv⟩ := Td.reads I e x qv.2 hsc rx
          have rv : Reads s.heap en.val e bs := by
            rw [p2]
            exact rv
          have rk : Reads s.heap en.key (keyD k) [] := by
            rw [er]
            exact keyD_reads p1
          exact ⟨_, Reads.dict ho hx.1 hdat (by rw [hes]; exact .cons rk .nil) (by rw [hes]; exact .cons rv .nil), by simpa using ⟨sys_ne2 hs, nv⟩⟩
  | .dict (_ :: _ :: _), _, _, h, _ => by cases h
theorem Td.readsAll (I : Inv X pins σ H s) : ∀ (ds : List PyData) (vs : List V) (us : List Value), TdAll X.K H vs ds → Vals vs us → ∃ as, ReadsAll s.heap us ds as ∧ sysModules ∉ as
  | [], _, _, h, r => by
    cases h
    cases r
    exact ⟨_, ReadsAll.nil, by simp⟩
  | d :: ds, _, _, h, r => by
    cases h with
    | cons h1 h2 =>
      cases r with
      | cons r1 r2 =>
        obtain ⟨as, q1, n1⟩ := Td.reads I d _ _ h1 r1
        obtain ⟨bs, q2, n2⟩ := Td.readsAll I ds _ _ h2 r2
        exact ⟨_, ReadsAll.cons q1 q2, by simpa using ⟨n1, n2⟩⟩
end
end
/-- shown data, whatever dicts are in it -/
structure RepD (d : PyData) (k n : Nat) : Prop where
  sh : d.showable = true
  dp : d.depth ≤ k
  lv : d.leavesShort 400 = true
  bk : d.bulk ≤ n
theorem RepD.of {d : PyData} {k n : Nat} (h : RepOk d k n) : RepD d k n := ⟨h.sh, h.dp, h.lv, h.bk⟩
theorem RepD.mono {d : PyData} {k n k' n' : Nat} (h : RepD d k n) (hk : k ≤ k') (hn : n ≤ n') : RepD d k' n' := ⟨h.sh, Nat.le_trans h.dp hk, h.lv, Nat.le_trans h.bk hn⟩
theorem RepD.fits {d : PyData} {k n : Nat} (h : RepD d k n) (hn : n ≤ 40000) : d.shown.length ≤ sizeLine := by
  have e := PyData.shown_le_bulk 400 (by decide) d h.lv
  have b := h.bk
  have : (400 + 2) * d.bulk ≤ 402 * 40000 := Nat.mul_le_mul (by decide) (by omega)
  rw [sizeLine_eq]
  omega
theorem repD_all {ds : List PyData} {k n : Nat} : (∀ d ∈ ds, RepD d k n) → PyData.showableAll ds = true ∧ PyData.depthAll ds ≤ k ∧ PyData.leavesShortAll 400 ds = true ∧ PyData.bulkAll ds ≤ ds.length * (n + 1) := by
  induction ds with
  | nil => intro _; exact ⟨rfl, Nat.zero_le _, rfl, Nat.zero_le _⟩
  | cons d r ih =>
    intro h
    obtain ⟨h1, h3, h4, h5⟩ := ih fun x hx => h x (List.mem_cons_of_mem _ hx)
    have q := h d (List.mem_cons_self ..)
    refine ⟨?_, ?_, ?_, ?_⟩
    · simp only [PyData.showableAll, q.sh, h1, Bool.and_self]
    · simp only [PyData.depthAll]
      exact Nat.max_le.mpr ⟨q.dp, h3⟩
    · simp only [PyData.leavesShortAll, q.lv, h4, Bool.and_self]
    · simp only [PyData.bulkAll, List.length_cons]
      have b := q.bk
      have e : (r.length + 1) * (n + 1) = r.length * (n + 1) + (n + 1) := Nat.succ_mul _ _
      omega
theorem RepD.tuple {ds : List PyData} {k n : Nat} (h : ∀ d ∈ ds, RepD d k n) : RepD (.tuple ds) (k + 1) (ds.length * (n + 1)) := by
  obtain ⟨h1, h3, h4, h5⟩ := repD_all h
  exact ⟨by simpa only [PyData.showable] using h1, by simp only [PyData.depth]; omega, by simpa only [PyData.leavesShort] using h4, by simpa only [PyData.bulk] using h5⟩
theorem RepD.d0 : RepD (.dict []) 1 0 := ⟨by simp [PyData.showable, PyData.showableKv], by simp [PyData.depth, PyData.depthKv], by simp [PyData.leavesShort, PyData.leavesShortKv], by simp [PyData.bulk, PyData.bulkKv]⟩
theorem RepD.d1 {a b : PyData} {k m n : Nat} (ha : RepD a k m) (hb : RepD b k n) : RepD (.dict [(a, b)]) (k + 1) (m + n + 2) := by
  refine ⟨?_, ?_, ?_, ?_⟩
  · simp [PyData.showable, PyData.showableKv, ha.sh, hb.sh]
  · have := ha.dp
    have := hb.dp
    simp [PyData.depth, PyData.depthKv]
    omega
  · simp [PyData.leavesShort, PyData.leavesShortKv, ha.lv, hb.lv]
  · have := ha.bk
    have := hb.bk
    simp [PyData.bulk, PyData.bulkKv]
    omega
/-- data, with small dicts in it or without -/
inductive Te (K : PySem.W.Frag) (H : Hp) : V → PyData → Prop
  | dp {v : V} {d : PyData} {k n : Nat} : Dp K H v d → RepOk d k n → k ≤ 40 → n ≤ 40000 → Te K H v d
  | td {a : Addr} {d : PyData} {k n : Nat} : Td K H (.ref a) d → RepD d k n → k ≤ 40 → n ≤ 40000 → Te K H (.ref a) d
mutual
theorem td_same {K : PySem.W.Frag} {H H1 : Hp} (s : Same H H1) : ∀ (d : PyData) (v : V), Td K H v d → Td K H1 v d
  | .none, _, h => by cases h; exact .non
  | .bool b, _, h => by cases h; exact .bl b
  | .int i, _, h => by cases h; exact .int i
  | .str x, _, h => by cases h; exact .str x
  | .list ds, _, h => by cases h
  | .tuple ds, _, h => by
    cases h with
    | tup hs ha => exact .tup (same_seqT s hs) (tdAll_same s ds _ ha)
  | .dict [], _, h => by
    cases h with
    | d0 ha => exact .d0 (s _ _ ha)
  | .dict [(kd, e)], _, h => by
    cases h with
    | d1 ha hx => exact .d1 (s _ _ ha) (td_same s e _ hx)
  | .dict (_ :: _ :: _), _, h => by cases h
theorem tdAll_same {K : PySem.W.Frag} {H H1 : Hp} (s : Same H H1) : ∀ (ds : List PyData) (vs : List V), TdAll K H vs ds → TdAll K H1 vs ds
  | [], _, h => by cases h; exact .nil
  | d :: ds, _, h => by
    cases h with
    | cons h1 h2 => exact .cons (td_same s d _ h1) (tdAll_same s ds _ h2)
end
theorem Te.same {K : PySem.W.Frag} {H H1 : Hp} {v : V} {d : PyData} (h : Te K H v d) (s : Same H H1) : Te K H1 v d := by
  cases h with
  | dp h1 h2 h3 h4 => exact .dp (dp_same s _ _ h1) h2 h3 h4
  | td h1 h2 h3 h4 => exact .td (td_same s _ _ h1) h2 h3 h4
def rRepr5 (K : PySem.W.Frag) : List V → Hp → VK → Prop := fun xs H Q => ∃ v d, xs = [v] ∧ Te K H v d ∧ Q (.str d.shown) H
theorem call_repr5 {X : Cx} (hG : X.A.guards = some []) (hu : X.A.units + 64 < cLine) : CallR X (.builtin "repr") (rRepr5 X.K) := by
  intro pins s σ H xs us Q I r h
  obtain ⟨v, d, e, hd, q⟩ := h
  cases hd with
  | dp h1 h2 h3 h4 => exact call_reprD hG hu pins s σ H xs us Q I r ⟨v, d, _, _, e, h1, h2, h3, h4, q⟩
  | @td a _ k n h1 h2 h3 h4 =>
    subst e
    rw [Vals.ref1 r]
    obtain ⟨as, rd, nos⟩ := Td.reads I d (.ref a) (.ref a) h1 rfl
    have fin : ∀ (h' : Heap) (u : Tok) (tk : Nat), (∀ b o, s.heap.get? b = some o → h'.get? b = some o) → EP X pins σ Q (.str d.shown u) { s with heap := h', toks := tk } :=
      fun h' u tk hk => ⟨.str d.shown, H, I.un (Un.kept hk) (I.hok.kept hk), ⟨u, rfl⟩, q⟩
    have dp := h2.dp
    exact repr_of_reads' rd h2.sh (fun _ => nos) hG (by omega) (fun _ _ z => z) fin (h2.fits h4)
theorem k_repr5 (K : PySem.W.Frag) {X : Cx} (hG : X.A.guards = some []) (hu : X.A.units + 64 < cLine) (h : X.K = K := by rfl) : CallR X (.builtin "repr") (rRepr5 K) := by
  subst h
  exact call_repr5 hG hu
end RO

namespace RO
open PySem PySem.Spec PyProof.Rows L2

/-! ### a tuple of three, turned about -/
section
variable {prog : Program} {w : World} {A : Around} {E : Value → Shared → Prop} {s : Shared}
theorem rev3_applied {sl : Addr} {k : Tok} {Q : Int × Int × Nat → Shared → Prop} (hs : s.heap.IsSliceOf sl .none .none (.int (-1) k)) (h : Q (2, -1, 3) s) : wpAny (model prog w) A (Builtin.Slice.sliceApplied (.ref sl) (pure ((3 : Nat) : Int))) Q E s := by
  obtain ⟨o, e1, e2, e3⟩ := id hs
  unfold Builtin.Slice.sliceApplied Builtin.Slice.sliceFields
  refine wpAny_bind (wpAny_bind (wpAny_field e1 e3 (x := .none) rfl (wpAny_bind (wpAny_field e1 e3 (x := .none) rfl (wpAny_bind (wpAny_field e1 e3 (x := .int (-1) k) rfl (wpAny_pure ?_)))))))
  refine wpAny_bind (HT.slicePart_ (.int (-1) k) ?_)
  show wpAny _ _ (if ((-1 : Int) == 0) = true then _ else _) _ _ s
  rw [if_neg (by decide)]
  refine wpAny_bind (HT.slicePart_ .none (wpAny_bind (HT.slicePart_ .none (wpAny_bind (wpAny_pure ?_)))))
  exact wpAny_of_eq (a := ((2 : Int), (-1 : Int), (3 : Nat))) rfl h
theorem rev3_get {t sl : Addr} {a b c : Value} {k : Tok} {Q : Value → Shared → Prop} (ht : IsTup s.heap t [a, b, c].toArray) (hs : s.heap.IsSliceOf sl .none .none (.int (-1) k))
    (h : Q (.ref s.heap.objs.size) { s with heap := s.heap.push { cls := .type "tuple", data := .seq [c, b, a].toArray } }) : wpAny (model prog w) A (getItem (.ref t) (.ref sl)) Q E s := by
  obtain ⟨o, e1, e2, e3⟩ := id hs
  have ty : s.TypeIs (.ref sl) "slice" := ⟨o, e1, e2⟩
  unfold getItem
  try with_reducible refine wpAny_holding ?_
  first | refine wpAny_bind (wpAny_pure ?_) | skip
  refine wpAny_bind (wpAny_sequenceKey ht.typeIs (by decide) ?_)
  refine wpAny_bind (wpAny_callSpecial?_slot (name := Str.ofString "__getitem__") ht.typeIs PyProof.Rows.slot_tuple_getitem (wpAny_call_entry PyProof.Rows.slot_tuple_getitem ht.typeIs entry_tuple_getitem ?_ (args_tuple_getitem _ _)))
  show wpAny _ _ (Builtin.Tuple.tupleItemsOf (.ref t) >>= _) _ _ s
  refine wpAny_bind (tupleItemsOf_ ht ?_)
  refine wpAny_bind (wpAny_typeOf ty ?_)
  rw [if_pos (by decide)]
  refine wpAny_bind (rev3_applied hs ?_)
  show wpAny _ _ (if (((2 : Int) == 0 && (-1 : Int) == 1 && (3 : Nat) == 3) = true) then _ else _) _ _ s
  rw [if_neg (by decide)]
  have fit : sizeOk (.seq [c, b, a].toArray) := by show 3 ≤ sizeLine; decide
  have e : ((List.range 3).filterMap fun (m : Nat) => ([a, b, c].toArray)[((2 : Int) + (m : Int) * -1).toNat]?).toArray = [c, b, a].toArray := rfl
  rw [e]
  first
    | exact wpAny_bind (m := Builtin.Tuple.tupleExact _) (wpAny_newObj_type (wpAny_pure ⟨_, rfl, wpAny_pure h⟩) fit)
    | exact wpAny_bind (m := Builtin.Tuple.tupleExact _) (wpAny_newObj_type (wpAny_bind (wpAny_pure (wpAny_pure ⟨_, rfl, wpAny_pure h⟩))) fit)
    | exact wpAny_bind (wpAny_bind (m := Builtin.Tuple.tupleExact _) (wpAny_newObj_type (wpAny_pure (wpAny_pure ⟨_, rfl, wpAny_pure h⟩)) fit))
    | exact wpAny_bind (wpAny_bind (m := Builtin.Tuple.tupleExact _) (wpAny_newObj_type (wpAny_pure ⟨_, rfl, wpAny_pure h⟩) fit))
end
def tRev3 (K : PySem.W.Frag) (te : TE) : TE := fun σ H Q => te σ H fun v H1 => ∃ a x y z, v = .ref a ∧ SqT K H1 a [x, y, z] ∧ ∀ p, H1 p = none → Q (.ref p) (upd H1 p (.tup [z, y, x]))
theorem pe_rev3 (K : PySem.W.Frag) {X : Cx} {e : Expr} {te : TE} {k : Nat} {p1 p2 p3 pos : Pos} (he : PE X e te) (hK : X.K = K := by rfl) : PE X (.Subscript e (.Slice none none (some (.UnaryOp .USub (.Constant (.int 1) k p1) p2)) p3) pos) (tRev3 K te) := by
  subst hK
  refine ⟨fun pins s σ H Q I h => ?_⟩
  refine Subscript_ (thn (he.run pins s σ H _ I h) fun v s1 ⟨x0, H1, I1, r1, q1⟩ => ?_)
  obtain ⟨a, x, y, z, ex, hx, q⟩ := q1
  subst ex
  cases r1
  have hst : PO X (some (.UnaryOp .USub (.Constant (.int 1) k p1) p2)) (tPart (tUn (rU fun i => .int (-i)) (tC (.int 1)))) := po_some (pe_un un_neg pe_int)
  refine wpAny_Slice (thn (po_none.run pins s1 σ H1 (fun o H2 => o = none ∧ H2 = H1) I1 ⟨rfl, rfl⟩) fun vl s2 ⟨l, H2, I2, pl, el, e2⟩ => ?_)
  subst el e2
  cases pl
  refine thn (po_none.run pins s2 σ H2 (fun o H3 => o = none ∧ H3 = H2) I2 ⟨rfl, rfl⟩) fun vu s3 ⟨u, H3, I3, pu, eu, e3⟩ => ?_
  subst eu e3
  cases pu
  refine thn (hst.run pins s3 σ H3 (fun o H4 => o = some (-1) ∧ H4 = H3) I3 ⟨1, rfl, -1, rfl, rfl, rfl⟩) fun vs s4 ⟨o, H4, I4, ps, eo, e4⟩ => ?_
  subst eo e4
  obtain ⟨tk, rfl⟩ : ∃ tk, vs = .int (-1) tk := by
    cases ps
    exact ⟨_, rfl⟩
  have I5 : Inv X pins σ H4 { s4 with heap := s4.heap.push { cls := .type "slice", data := .fields #[.none, .none, .int (-1) tk] } } := I4.kept (t' := s4.toks) fun b ob q => Heap.get?_push_of_some _ q
  obtain ⟨its, r, ht, hz⟩ := I5.tuple hx
  obtain ⟨u1, u2, u3, rfl, q1, q2, q3⟩ : ∃ u1 u2 u3, its = [u1, u2, u3] ∧ RelV x u1 ∧ RelV y u2 ∧ RelV z u3 := by
    cases r with
    | cons p q =>
      cases q with
      | cons p' q' =>
        cases q' with
        | cons p'' q'' =>
          cases q''
          exact ⟨_, _, _, rfl, p, p', p''⟩
  show wpAny (model X.prog X.w) X.A (subscriptTail e (.Slice none none (some (.UnaryOp .USub (.Constant (.int 1) k p1) p2)) p3) (.ref a) (.ref s4.heap.objs.size)) (EP X pins σ Q) X.xe { s4 with heap := s4.heap.push { cls := .type "slice", data := .fields #[.none, .none, .int (-1) tk] } }
  refine tail_any (ops := [.ref a, .ref s4.heap.objs.size]) ht.typeIs (PyProof.Rows.slot_tuple_getitem.lookup) ?_ (by with_unfolding_all rfl)
  refine rev3_get ht (Heap.IsSliceOf.new _ .none .none (.int (-1) tk)) ?_
  refine ⟨.ref _, _, I5.laid (t' := s4.toks) (o := .tup [z, y, x]) (fun b ob q => Heap.get?_push_of_some _ q) (Nat.le_refl _) ?_, rfl, q _ (I5.hok.fresh (Nat.le_refl _))⟩
  exact ⟨by show 3 ≤ sizeLine; decide, _, .cons q3 (.cons q2 (.cons q1 .nil)), IsTup.new _ _⟩
end RO

namespace RO
open PySem PySem.Spec PyProof.Rows L2

/-! ### a tuple, turned about -/
theorem back_snoc {α : Type} {p : List α → Prop} (h0 : p []) (h1 : ∀ l a, p l → p (l ++ [a])) : ∀ l, p l := fun l => by
  have : ∀ l : List α, p l.reverse := fun l => by
    induction l with
    | nil => exact h0
    | cons a l ih =>
      rw [List.reverse_cons]
      exact h1 _ _ ih
  have z := this l.reverse
  rw [List.reverse_reverse] at z
  exact z
theorem fm_cong {α β : Type} {f g : α → Option β} : ∀ {l : List α}, (∀ x ∈ l, f x = g x) → l.filterMap f = l.filterMap g
  | [], _ => rfl
  | x :: l, h => by
    rw [List.filterMap_cons, List.filterMap_cons, h x (List.mem_cons_self ..), fm_cong fun y hy => h y (List.mem_cons_of_mem _ hy)]
theorem back_all {α : Type} (l : List α) : (List.range l.length).filterMap (fun m => l[l.length - 1 - m]?) = l.reverse := by
  refine back_snoc (p := fun l => (List.range l.length).filterMap (fun m => l[l.length - 1 - m]?) = l.reverse) rfl (fun l a ih => ?_) l
  rw [List.length_append, List.reverse_append]
  show (List.range (l.length + 1)).filterMap (fun m => (l ++ [a])[l.length + 1 - 1 - m]?) = a :: l.reverse
  rw [List.range_succ_eq_map, List.filterMap_cons]
  have e0 : (l ++ [a])[l.length + 1 - 1 - 0]? = some a := by
    rw [show l.length + 1 - 1 - 0 = l.length by omega, List.getElem?_append_right (Nat.le_refl _), Nat.sub_self]
    rfl
  rw [e0, List.filterMap_map, ← ih]
  show a :: _ = a :: _
  congr 1
  refine fm_cong fun m hm => ?_
  have hm := List.mem_range.mp hm
  show (l ++ [a])[l.length + 1 - 1 - (m + 1)]? = _
  rw [List.getElem?_append_left (by omega), show l.length + 1 - 1 - (m + 1) = l.length - 1 - m by omega]
theorem back_pick (xs : Array Value) : ((List.range xs.size).filterMap fun (m : Nat) => xs[(((xs.size : Int) - 1) + (m : Int) * -1).toNat]?).toArray = xs.toList.reverse.toArray := by
  rw [← back_all]
  congr 1
  rw [Array.length_toList]
  refine fm_cong fun m hm => ?_
  have hm := List.mem_range.mp hm
  rw [show (((xs.size : Int) - 1) + (m : Int) * -1).toNat = xs.size - 1 - m by omega]
  simp
section
variable {prog : Program} {w : World} {A : Around} {E : Value → Shared → Prop} {s : Shared}
theorem back_applied {sl : Addr} {k : Tok} {n : Nat} {Q : Int × Int × Nat → Shared → Prop} (hs : s.heap.IsSliceOf sl .none .none (.int (-1) k)) (h : Q ((n : Int) - 1, -1, n) s) : wpAny (model prog w) A (Builtin.Slice.sliceApplied (.ref sl) (pure (n : Int))) Q E s := by
  obtain ⟨o, e1, e2, e3⟩ := id hs
  unfold Builtin.Slice.sliceApplied Builtin.Slice.sliceFields
  refine wpAny_bind (wpAny_bind (wpAny_field e1 e3 (x := .none) rfl (wpAny_bind (wpAny_field e1 e3 (x := .none) rfl (wpAny_bind (wpAny_field e1 e3 (x := .int (-1) k) rfl (wpAny_pure ?_)))))))
  refine wpAny_bind (HT.slicePart_ (.int (-1) k) ?_)
  show wpAny _ _ (if ((-1 : Int) == 0) = true then _ else _) _ _ s
  rw [if_neg (by decide)]
  refine wpAny_bind (HT.slicePart_ .none (wpAny_bind (HT.slicePart_ .none (wpAny_bind (wpAny_pure ?_)))))
  refine wpAny_of_eq (a := ((n : Int) - 1, (-1 : Int), n)) ?_ h
  have pl : Builtin.Slice.slicePlaces ((n : Int) - 1) (-1) (-1) = n := by
    unfold Builtin.Slice.slicePlaces
    rw [if_neg (by decide)]
    by_cases z : n = 0
    · subst z
      rfl
    · rw [if_pos (by omega)]
      have : ((n : Int) - 1 - -1 - 1) / -(-1) = (n : Int) - 1 := by
        rw [show -(-1 : Int) = 1 from rfl, Int.ediv_one]
        omega
      rw [this]
      omega
  show (pure (((n : Int) - 1), (-1 : Int), Builtin.Slice.slicePlaces ((n : Int) - 1) (-1) (-1)) : Sem (Int × Int × Nat)) = _
  rw [pl]
theorem back_get {t sl : Addr} {xs : Array Value} {k : Tok} {Q : Value → Shared → Prop} (ht : IsTup s.heap t xs) (hs : s.heap.IsSliceOf sl .none .none (.int (-1) k)) (hz : xs.size ≤ sizeLine)
    (h : Q (.ref s.heap.objs.size) { s with heap := s.heap.push { cls := .type "tuple", data := .seq xs.toList.reverse.toArray } }) : wpAny (model prog w) A (getItem (.ref t) (.ref sl)) Q E s := by
  obtain ⟨o, e1, e2, e3⟩ := id hs
  have ty : s.TypeIs (.ref sl) "slice" := ⟨o, e1, e2⟩
  unfold getItem
  try with_reducible refine wpAny_holding ?_
  first | refine wpAny_bind (wpAny_pure ?_) | skip
  refine wpAny_bind (wpAny_sequenceKey ht.typeIs (by decide) ?_)
  refine wpAny_bind (wpAny_callSpecial?_slot (name := Str.ofString "__getitem__") ht.typeIs PyProof.Rows.slot_tuple_getitem (wpAny_call_entry PyProof.Rows.slot_tuple_getitem ht.typeIs entry_tuple_getitem ?_ (args_tuple_getitem _ _)))
  show wpAny _ _ (Builtin.Tuple.tupleItemsOf (.ref t) >>= _) _ _ s
  refine wpAny_bind (tupleItemsOf_ ht ?_)
  refine wpAny_bind (wpAny_typeOf ty ?_)
  rw [if_pos (by decide)]
  refine wpAny_bind (back_applied hs ?_)
  show wpAny _ _ (if ((((xs.size : Int) - 1) == 0 && (-1 : Int) == 1 && xs.size == xs.size) = true) then _ else _) _ _ s
  rw [if_neg (by rw [show ((-1 : Int) == 1) = false from rfl, Bool.and_false, Bool.false_and]; exact Bool.false_ne_true)]
  have fit : sizeOk (.seq xs.toList.reverse.toArray) := by
    show xs.toList.reverse.toArray.size ≤ sizeLine
    rw [List.size_toArray, List.length_reverse, Array.length_toList]
    exact hz
  rw [back_pick]
  first
    | exact wpAny_bind (m := Builtin.Tuple.tupleExact _) (wpAny_newObj_type (wpAny_pure ⟨_, rfl, wpAny_pure h⟩) fit)
    | exact wpAny_bind (m := Builtin.Tuple.tupleExact _) (wpAny_newObj_type (wpAny_bind (wpAny_pure (wpAny_pure ⟨_, rfl, wpAny_pure h⟩))) fit)
    | exact wpAny_bind (wpAny_bind (m := Builtin.Tuple.tupleExact _) (wpAny_newObj_type (wpAny_pure (wpAny_pure ⟨_, rfl, wpAny_pure h⟩)) fit))
    | exact wpAny_bind (wpAny_bind (m := Builtin.Tuple.tupleExact _) (wpAny_newObj_type (wpAny_pure ⟨_, rfl, wpAny_pure h⟩) fit))
end
def tRevU (K : PySem.W.Frag) (te : TE) : TE := fun σ H Q => te σ H fun v H1 => ∃ a xs, v = .ref a ∧ SqT K H1 a xs ∧ ∀ p, H1 p = none → Q (.ref p) (upd H1 p (.tup xs.reverse))
theorem pe_revU (K : PySem.W.Frag) {X : Cx} {e : Expr} {te : TE} {k : Nat} {p1 p2 p3 pos : Pos} (he : PE X e te) (hK : X.K = K := by rfl) : PE X (.Subscript e (.Slice none none (some (.UnaryOp .USub (.Constant (.int 1) k p1) p2)) p3) pos) (tRevU K te) := by
  subst hK
  refine ⟨fun pins s σ H Q I h => ?_⟩
  refine Subscript_ (thn (he.run pins s σ H _ I h) fun v s1 ⟨x0, H1, I1, r1, q1⟩ => ?_)
  obtain ⟨a, xs, ex, hx, q⟩ := q1
  subst ex
  cases r1
  have hst : PO X (some (.UnaryOp .USub (.Constant (.int 1) k p1) p2)) (tPart (tUn (rU fun i => .int (-i)) (tC (.int 1)))) := po_some (pe_un un_neg pe_int)
  refine wpAny_Slice (thn (po_none.run pins s1 σ H1 (fun o H2 => o = none ∧ H2 = H1) I1 ⟨rfl, rfl⟩) fun vl s2 ⟨l, H2, I2, pl, el, e2⟩ => ?_)
  subst el e2
  cases pl
  refine thn (po_none.run pins s2 σ H2 (fun o H3 => o = none ∧ H3 = H2) I2 ⟨rfl, rfl⟩) fun vu s3 ⟨u, H3, I3, pu, eu, e3⟩ => ?_
  subst eu e3
  cases pu
  refine thn (hst.run pins s3 σ H3 (fun o H4 => o = some (-1) ∧ H4 = H3) I3 ⟨1, rfl, -1, rfl, rfl, rfl⟩) fun vs s4 ⟨o, H4, I4, ps, eo, e4⟩ => ?_
  subst eo e4
  obtain ⟨tk, rfl⟩ : ∃ tk, vs = .int (-1) tk := by
    cases ps
    exact ⟨_, rfl⟩
  have I5 : Inv X pins σ H4 { s4 with heap := s4.heap.push { cls := .type "slice", data := .fields #[.none, .none, .int (-1) tk] } } := I4.kept (t' := s4.toks) fun b ob q => Heap.get?_push_of_some _ q
  obtain ⟨its, r, ht, hz⟩ := I5.tuple hx
  have hl := r.length
  show wpAny (model X.prog X.w) X.A (subscriptTail e (.Slice none none (some (.UnaryOp .USub (.Constant (.int 1) k p1) p2)) p3) (.ref a) (.ref s4.heap.objs.size)) (EP X pins σ Q) X.xe { s4 with heap := s4.heap.push { cls := .type "slice", data := .fields #[.none, .none, .int (-1) tk] } }
  refine tail_any (ops := [.ref a, .ref s4.heap.objs.size]) ht.typeIs (PyProof.Rows.slot_tuple_getitem.lookup) ?_ (by with_unfolding_all rfl)
  refine back_get ht (Heap.IsSliceOf.new _ .none .none (.int (-1) tk)) (by rw [List.size_toArray]; omega) ?_
  refine ⟨.ref _, _, I5.laid (t' := s4.toks) (o := .tup xs.reverse) (fun b ob q => Heap.get?_push_of_some _ q) (Nat.le_refl _) ?_, rfl, q _ (I5.hok.fresh (Nat.le_refl _))⟩
  exact ⟨by rw [List.length_reverse]; exact hz, _, r.reverse, IsTup.new _ _⟩
/-! ### a tuple taken once or oftener -/
theorem once_mul (l : Addr) (items : Array Value) (n : Nat) (dd : Option Addr) (sl : Array (Option Value)) (u : Tok) :
    Meets (Builtin.«tuple.__mul__» ⟨[.ref l, .int 1 u], []⟩) (fun _ R s => s.heap.get? l = some { cls := .type "tuple", dict := dd, data := .seq items n, slots := sl } ∧ R (.ok (.ret (.ref l))) s) :=
  .of_wp fun prog w A R s h => by
    obtain ⟨hp, g, d, tk, os⟩ := s
    obtain ⟨hl, h⟩ := h
    have f1 := AutoSeq1.idx_int
    wp_walk using wpAny_loadPart' hl
    exact ⟨_, rfl, h⟩
def rRepU (K : PySem.W.Frag) : R2 := fun x y H Q => ∃ l k xs, x = .ref l ∧ y = .int k ∧ SqT K H l xs ∧ xs ≠ [] ∧ 1 ≤ k ∧ k ≤ 1000 ∧ xs.length ≤ 1000 ∧ ∀ q H', Same H H' → SqT K H' q (List.replicate k.toNat xs).flatten → Q (.ref q) H'
theorem k_repU (K : PySem.W.Frag) {X : Cx} (h : X.K = K := by rfl) : OpR X (binaryOp .Mult) (rRepU K) := by
  subst h
  intro pins s σ H x y v u Q I rx ry h
  obtain ⟨l, k, xs, rfl, rfl, hT, hne, h1, h2, hz, q⟩ := h
  by_cases k1 : k = 1
  · subst k1
    cases rx
    obtain ⟨t, rfl⟩ := ry
    obtain ⟨its, r, ⟨⟨cls, dd, data, sl⟩, ho, hc, n, hd⟩, hs⟩ := I.tuple hT
    simp only at hc hd
    subst hc hd
    refine wpAny_binaryOp_repeat_ref (T := "tuple") (U := "int") (by decide) ⟨_, ho, rfl⟩ (fun s' => typeIs_int s' 1 t) L2.noFill_tuple_mul F.fills_int_mul F.slot_int_rmul L2.repeat_tuple F.slot_int_index.lookup
      (call_meets F.slot_int_rmul (typeIs_int s 1 t) F.entry_int_rmul (F.args_int_rmul_2 _ _) (L2.int_rmul_tuple 1 t l its.toArray n dd sl)
        ⟨ho, rfl, ⟨_, ho, rfl⟩, call_meets F.slot_tuple_mul ⟨_, ho, rfl⟩ F.entry_tuple_mul (F.args_tuple_mul_2 _ _) (once_mul l its.toArray n dd sl t) ⟨ho, ?_⟩⟩)
    have e : (List.replicate (1 : Int).toNat xs).flatten = xs := by
      show xs ++ [] = xs
      rw [List.append_nil]
    exact ⟨.ref l, H, I, rfl, q l H (Same.refl _) (by rw [e]; exact hT)⟩
  · exact op_repT pins s σ H _ _ v u Q I rx ry ⟨l, k, xs, rfl, rfl, hT, hne, by omega, h2, hz, fun p hp => q p _ (same_new (Same.refl _) hp) (SqT.of upd_same)⟩
end RO

namespace RO
open PySem PySem.Spec PyProof.Rows L2

/-! ### dict(enumerate(t)), t a tuple -/
section
variable {prog : Program} {w : World} {A : Around} {E : Value → Shared → Prop} {s : Shared}
theorem next_heldT {e it l T : Addr} {i : Nat} {items : Array Value} {x old : Value} {f : Bool} {oT : Obj} {Q : Value → Shared → Prop}
    (he : IsEnumHeld s.heap e it (i : Int) old T f) (hT : s.heap.get? T = some oT) (hTe : T ≠ e) (hTi : T ≠ it) (hit : s.heap.IsTupleIter it l i) (hl : s.heap.IsTuple l items) (hx : items[i]? = some x) (hne : e ≠ it)
    (hQ : ∀ h', IsEnumHeld h' e it ((i : Int) + 1) old T true → h'.IsTupleIter it l (i + 1) → h'.get? s.heap.objs.size = some { cls := .type "tuple", data := .seq #[.int (i : Int) s.toks, x] } → h'.objs.size = s.heap.objs.size + 1 →
      (∀ b o, b ≠ e → b ≠ it → s.heap.get? b = some o → h'.get? b = some o) → Q (.ref s.heap.objs.size) { s with heap := h', toks := s.toks + 1 }) :
    wpAny (model prog w) A (Builtin.«enumerate.__next__» ⟨[.ref e], []⟩) (fun fin s' => ∃ v, fin = .done (.ret v) ∧ Q v s') E s := by
  obtain ⟨hp, g, d, tk, os⟩ := s
  unfold Builtin.«enumerate.__next__»
  show wpAny _ _ (field (.ref e) 2 >>= _) _ _ _
  refine wpAny_bind (wpAny_field he rfl rfl (wpAny_bind (RZ.nextOf_tuple_item hit hl hx fun h₁ hit₁ hs₁ => ?_)))
  have he₁ := (hs₁.2 e hne).trans he
  refine wpAny_bind (wpAny_field he₁ rfl rfl ?_)
  refine wpAny_bind (wpAny_field he₁ rfl rfl ?_)
  refine wpAny_bind (wpAny_mkInt ?_)
  refine wpAny_bind (wpAny_setField_rec he₁ (by show 3 < 6; decide) fun h₂ he₂ hs₂ => ?_)
  refine wpAny_bind (wpAny_setField_rec he₂ (by show 4 < 6; decide) fun h₃ he₃ hs₃ => ?_)
  refine wpAny_bind (wpAny_newTuple ?_ (by show 2 ≤ sizeLine; decide))
  have hsz : h₃.objs.size = hp.objs.size := hs₃.1.trans (hs₂.1.trans hs₁.1)
  have he₄ := Heap.get?_push_of_some { cls := .type "tuple", data := .seq #[.int (i : Int) tk, x] } he₃
  have hel : e < hp.objs.size := Heap.lt_size he
  have ht₄ : (h₃.push { cls := .type "tuple", data := .seq #[.int (i : Int) tk, x] }).get? hp.objs.size = some { cls := .type "tuple", data := .seq #[.int (i : Int) tk, x] } := by
    rw [← hsz]
    exact Heap.get?_push_size h₃ rfl
  have hz₄ : (h₃.push { cls := .type "tuple", data := .seq #[.int (i : Int) tk, x] }).objs.size = hp.objs.size + 1 := by
    rw [Heap.size_push, hsz]
  have hk₄ : ∀ b o, b ≠ e → b ≠ it → hp.get? b = some o → (h₃.push { cls := .type "tuple", data := .seq #[.int (i : Int) tk, x] }).get? b = some o := fun b o hbe hbi hb =>
    Heap.get?_push_of_some _ (Heap.SameBut.extBut hs₃ b o hbe (Heap.SameBut.extBut hs₂ b o hbe (Heap.SameBut.extBut hs₁ b o hbi hb)))
  have hit₄ : (h₃.push { cls := .type "tuple", data := .seq #[.int (i : Int) tk, x] }).IsTupleIter it l (i + 1) := by
    obtain ⟨o, ho, r⟩ := hit₁
    exact ⟨o, Heap.get?_push_of_some _ (Heap.SameBut.extBut hs₃ it o (Ne.symm hne) (Heap.SameBut.extBut hs₂ it o (Ne.symm hne) ho)), r⟩
  show wpAny _ _ (Builtin.SmallTypes.ownedTupleIsFree (.ref e) >>= _) _ _ _
  refine wpAny_bind (wpAny_tupleHeld_enum he₄ (hk₄ T oT hTe hTi hT) fun h₅ he₅ hs₅ => ?_)
  rw [if_neg Bool.false_ne_true]
  show wpAny _ _ (ret (.ref h₃.objs.size)) _ _ _
  rw [hsz]
  refine wpAny_pure ⟨_, rfl, hQ h₅ he₅ ?_ (Heap.SameBut.extBut hs₅ _ _ (Nat.ne_of_gt hel) ht₄) (hs₅.1.trans hz₄) fun b o hbe hbi hb => Heap.SameBut.extBut hs₅ b o hbe (hk₄ b o hbe hbi hb)⟩
  obtain ⟨o, ho, r⟩ := hit₄
  exact ⟨o, Heap.SameBut.extBut hs₅ it o (Ne.symm hne) ho, r⟩
theorem pyNext_heldT {e it l T : Addr} {i : Nat} {items : Array Value} {x old : Value} {f : Bool} {oT : Obj} {Q : Option Value → Shared → Prop}
    (he : IsEnumHeld s.heap e it (i : Int) old T f) (hT : s.heap.get? T = some oT) (hTe : T ≠ e) (hTi : T ≠ it) (hit : s.heap.IsTupleIter it l i) (hl : s.heap.IsTuple l items) (hx : items[i]? = some x) (hne : e ≠ it)
    (hQ : ∀ h', IsEnumHeld h' e it ((i : Int) + 1) old T true → h'.IsTupleIter it l (i + 1) → h'.get? s.heap.objs.size = some { cls := .type "tuple", data := .seq #[.int (i : Int) s.toks, x] } → h'.objs.size = s.heap.objs.size + 1 →
      (∀ b o, b ≠ e → b ≠ it → s.heap.get? b = some o → h'.get? b = some o) → Q (some (.ref s.heap.objs.size)) { s with heap := h', toks := s.toks + 1 }) :
    wpAny (model prog w) A (pyNext (.ref e)) Q E s :=
  have hTy : s.TypeIs (.ref e) "enumerate" := ⟨_, he, rfl⟩
  wpAny_bind (wpAny_attempt (wpAny_callSpecial?_slot hTy F.slot_enumerate_next (wpAny_call_entry F.slot_enumerate_next hTy F.entry_enumerate_next
    (next_heldT he hT hTe hTi hit hl hx hne fun h' a1 a2 a3 a4 a5 => wpAny_pure (hQ h' a1 a2 a3 a4 a5)) (F.args_enumerate_next_1 (.ref e)))))
theorem pyNext_endT {e it l T : Addr} {i : Nat} {items : Array Value} {old : Value} {f : Bool} {Q : Option Value → Shared → Prop} (hh : A.handled = none)
    (he : IsEnumHeld s.heap e it (i : Int) old T f) (hit : s.heap.IsTupleIter it l i) (hl : s.heap.IsTuple l items) (hx : items[i]? = none)
    (hQ : ∀ h', Heap.ExtBut it s.heap h' → Q none { s with heap := h' }) : wpAny (model prog w) A (pyNext (.ref e)) Q E s := by
  have hTy : s.TypeIs (.ref e) "enumerate" := ⟨_, he, rfl⟩
  refine wpAny_bind (wpAny_attempt (wpAny_callSpecial?_slot hTy F.slot_enumerate_next (wpAny_call_entry F.slot_enumerate_next hTy F.entry_enumerate_next ?_ (F.args_enumerate_next_1 (.ref e)))))
  unfold Builtin.«enumerate.__next__»
  show wpAny _ _ (field (.ref e) 2 >>= _) _ _ _
  refine wpAny_bind (wpAny_field he rfl rfl (wpAny_bind (RZ.nextOf_tuple_end hh hit hl hx fun h' x he' hx' => ?_)))
  obtain ⟨o, ho, hc⟩ := hx'
  exact wpAny_bind (wpAny_isInstance ⟨o, ho, hc⟩ isSubtype_stop (wpAny_pure (hQ h' he')))
end
theorem arg_enumT {prog : Program} {w : World} (e it l : Addr) (hei : e ≠ it) (hle : l ≠ e) (hli : l ≠ it) (items : Array Value) :
    PairArg prog w "enumerate" e [e, it, l] [e, it] items.size (fun i k v => (∃ t, k = Value.int (i : Int) t) ∧ items[i]? = some v) fun h => (∃ old, IsEnum h e it 0 old) ∧ h.IsTupleIter it l 0 ∧ h.IsTuple l items where
  type := fun s ok => by
    obtain ⟨⟨_, he⟩, _⟩ := ok
    exact ⟨_, he, rfl⟩
  notDict := by decide
  keep := fun h h' ok hk => by
    obtain ⟨⟨old, he⟩, hit, o, ho, r⟩ := ok
    exact ⟨⟨old, hk _ _ he⟩, Heap.IsTupleIter.at hit fun o x => hk it o x, o, hk _ _ ho, r⟩
  there := fun h ok b hb => by
    obtain ⟨⟨old, he⟩, ⟨o1, h1, _⟩, o, ho, r⟩ := ok
    simp only [List.mem_cons, List.not_mem_nil, or_false] at hb
    rcases hb with z | z | z <;> subst z
    · exact ⟨_, he⟩
    · exact ⟨_, h1⟩
    · exact ⟨_, ho⟩
  sub := fun b hb => by
    simp only [List.mem_cons, List.not_mem_nil, or_false] at hb ⊢
    rcases hb with z | z
    · exact .inl z
    · exact .inr (.inl z)
  noKeys := fun A s Q E hA ok h => by
    obtain ⟨⟨_, he⟩, _⟩ := ok
    exact getAttrOr_miss_enumerate he rfl rfl rfl enumerate_no_keys (by decide) hA h (by decide +kernel)
  iter := fun A s d Q E hA ok hd hdf h => by
    obtain ⟨⟨old, he⟩, hit, hl⟩ := ok
    simp only [List.mem_cons, List.not_mem_nil, or_false, not_or] at hdf
    obtain ⟨de, dit, dl⟩ := hdf
    refine wpAny_pyIter_enum he (h e [e, it] (fun i h => h.IsTupleIter it l i ∧ h.IsTuple l items ∧ ((∃ old, IsEnum h e it ((i : Nat) : Int) old) ∨ ∃ old T f oT, IsEnumHeld h e it ((i : Nat) : Int) old T f ∧ h.get? T = some oT ∧ T ≠ e ∧ T ≠ it ∧ T ≠ d)) s.heap s.toks ?_ ⟨hit, hl, .inl ⟨old, he⟩⟩ (fun _ _ x => x) fun b hb => .inl hb)
    have tupKeep : ∀ {h1 h2 : Heap}, h1.IsTuple l items → (∀ o, h1.get? l = some o → h2.get? l = some o) → h2.IsTuple l items := fun ⟨o, ho, r⟩ k => ⟨o, k o ho, r⟩
    refine ⟨?_, ?_, ?_, ?_⟩
    · intro hm
      simp only [List.mem_cons, List.not_mem_nil, or_false] at hm
      rcases hm with z | z
      · exact de z
      · exact dit z
    · rintro i h1 h2 ⟨hit, hl, st⟩ hk
      refine ⟨Heap.IsTupleIter.at hit fun o x => hk it o (Ne.symm dit) x, tupKeep hl fun o x => hk l o (Ne.symm dl) x, ?_⟩
      rcases st with ⟨old, he⟩ | ⟨old, T, f, oT, he, hT, r1, r2, r3⟩
      · exact .inl ⟨old, hk e _ (Ne.symm de) he⟩
      · exact .inr ⟨old, T, f, oT, hk e _ (Ne.symm de) he, hk T oT r3 hT, r1, r2, r3⟩
    · rintro i s1 Q1 E1 hi ⟨hit, hl, st⟩ hds hQ
      have ex : items[i]? = some items[i] := Array.getElem?_eq_getElem hi
      have mem : ∀ {b : Addr}, b ∉ [e, it] → b ≠ e ∧ b ≠ it := fun hb => ⟨fun z => hb (by simp [z]), fun z => hb (by simp [z])⟩
      have il : it < s1.heap.objs.size := by
        obtain ⟨_, q, _⟩ := hit
        exact Heap.lt_size q
      have ec : ((i + 1 : Nat) : Int) = (i : Int) + 1 := by omega
      rcases st with ⟨old, he⟩ | ⟨old, T, f, oT, he, hT, r1, r2, r3⟩
      · refine wpAny_pyNext_enum_itemD (drawsT (A := A.in1) hA it l hli items) he ⟨hit, hl⟩ hi hei (by simp [hei, Ne.symm hle]) fun x h' tk px ho hst hT hsz hk => ?_
        have px : items[i]? = some x := px
        refine hQ s1.heap.objs.size (.int (i : Int) tk) x h' (tk + 1) ⟨⟨_, rfl⟩, px⟩ (.inl ⟨_, hT, rfl, 0, rfl⟩) ⟨hst.1, hst.2, .inr ⟨x, s1.heap.objs.size, false, _, by rw [ec]; exact ho, hT, Nat.ne_of_gt (Heap.lt_size he), Nat.ne_of_gt il, Nat.ne_of_gt hds⟩⟩ fun b o hb x => hk b o (mem hb).1 (mem hb).2 x
      · refine pyNext_heldT he hT r1 r2 hit hl ex hei fun h' ho hit' hT' hsz hk => ?_
        exact hQ s1.heap.objs.size (.int (i : Int) s1.toks) items[i] h' (s1.toks + 1) ⟨⟨_, rfl⟩, ex⟩ (.inl ⟨_, hT', rfl, 0, rfl⟩) ⟨hit', tupKeep hl fun o x => hk l o hle hli x, .inr ⟨old, T, true, oT, by rw [ec]; exact ho, hk T oT r1 r2 hT, r1, r2, r3⟩⟩ fun b o hb x => hk b o (mem hb).1 (mem hb).2 x
    · rintro s1 Q1 E1 ⟨hit, hl, st⟩ hQ
      have hx : items[items.size]? = none := Array.getElem?_eq_none (Nat.le_refl items.size)
      have mem : ∀ {b : Addr}, b ∉ [e, it] → b ≠ it := fun hb z => hb (by simp [z])
      rcases st with ⟨old, he⟩ | ⟨old, T, f, oT, he, hT, r1, r2, r3⟩
      · exact wpAny_pyNext_enum_endD (drawsT (A := A.in1) hA it l hli items) he ⟨hit, hl⟩ fun h' hk => hQ h' s1.toks fun b o hb x => hk b o (mem hb) x
      · exact pyNext_endT hA he hit hl hx fun h' hk => hQ h' s1.toks fun b o hb x => hk b o (mem hb) x
end RO

namespace RO
open PySem PySem.Spec PyProof.Rows L2

/-! ### dict(enumerate(t)) -/
def numbered : Nat → List V → List (Key × V)
  | _, [] => []
  | i, x :: r => (.inl (i : Int), x) :: numbered (i + 1) r
theorem numbered_len : ∀ (xs : List V) (i : Nat), (numbered i xs).length = xs.length
  | [], _ => rfl
  | _ :: r, i => by
    show (numbered (i + 1) r).length + 1 = _
    rw [numbered_len r]
    rfl
def numV : Nat → List Value → List (Key × Value)
  | _, [] => []
  | i, x :: r => (.inl (i : Int), x) :: numV (i + 1) r
theorem numV_len : ∀ (xs : List Value) (i : Nat), (numV i xs).length = xs.length
  | [], _ => rfl
  | _ :: r, i => by
    show (numV (i + 1) r).length + 1 = _
    rw [numV_len r]
    rfl
theorem numV_get : ∀ (xs : List Value) (i j : Nat) (v : Value), xs[j]? = some v → (numV i xs)[j]? = some (.inl ((i + j : Nat) : Int), v)
  | [], _, _, _, h => by simp at h
  | x :: r, i, 0, v, h => by
    obtain rfl := Option.some.inj h
    rfl
  | x :: r, i, j + 1, v, h => by
    have z := numV_get r (i + 1) j v h
    rw [show i + 1 + j = i + (j + 1) by omega] at z
    exact z
theorem num_kv : ∀ {xs : List V} {us : List Value} (i : Nat), Vals xs us → KV (numbered i xs) (numV i us)
  | _, _, _, .nil => .nil
  | _, _, i, .cons h r => .cons ⟨rfl, h⟩ (num_kv (i + 1) r)
def tDictE (K : PySem.W.Frag) (te : TE) : TE := fun σ H Q => te σ H fun v H1 => ∃ a xs, v = .ref a ∧ SqT K H1 a xs ∧ ∀ p, H1 p = none → Q (.ref p) (upd H1 p (.dK (mergeK [] (numbered 0 xs))))
theorem pe_dictE (K : PySem.W.Frag) {X : Cx} {e : Expr} {te : TE} {p1 p2 pos1 pos2 : Pos} (hc : X.calm = true) (hgd : Gl X "dict") (hmd : X.mg "dict" = none) (hge : Gl X "enumerate") (hme : X.mg "enumerate" = none) (he : PE X e te) (hK : X.K = K := by rfl)
    (hs : starEach [e] X.env = [(false, eval e X.env)] := by rfl) :
    PE X (.Call (.Name "dict" p1) [.Call (.Name "enumerate" p2) [e] [] pos2] [] pos1) (tDictE K te) := by
  subst hK
  refine ⟨fun pins s σ H Q I h => ?_⟩
  refine Call_ ?_
  apply ld_blt I hgd hmd boot_dict
  apply PyProof.Rows.callWith_type1 _ rfl rfl
  refine Calls.spliced_cons ?_
  show wpAny _ _ (eval (.Call (.Name "enumerate" p2) [e] [] pos2) X.env) _ _ _
  refine Call_ ?_
  apply ld_blt I hge hme boot_enumerate
  apply PyProof.Rows.callWith_type1 _ hs rfl
  rw [hs]
  refine Calls.spliced_cons ?_
  show wpAny _ _ (eval e X.env) _ _ _
  refine thn (he.run pins s σ H _ I h) fun u s1 ⟨x0, H1, I1, r1, a, xs, ex, hq, q⟩ => ?_
  subst ex
  obtain rfl : u = Value.ref a := r1
  refine Calls.spliced_nil ?_
  obtain ⟨its, rv, p', hz⟩ := I1.tuple hq
  obtain ⟨o, ho, _⟩ := id p'
  have hal : a < s1.heap.objs.size := Heap.lt_size ho
  refine call_enumT p' fun h' hen hit hsz hk => ?_
  refine Calls.spliced_nil ?_
  have hT' : h'.IsTuple a its.toArray := by
    obtain ⟨o, ho, r⟩ := p'
    exact ⟨o, hk _ _ ho, r⟩
  have I2 : Inv X pins σ H1 { s1 with heap := h' } := I1.kept (t' := s1.toks) hk
  refine call_dict_pairs (knd := mixKind X.prog X.w) (kvs := numV 0 its) (arg_enumT (s1.heap.objs.size + 1) s1.heap.objs.size a (Nat.succ_ne_self _) (Nat.ne_of_lt (Nat.lt_succ_of_lt hal)) (Nat.ne_of_lt hal) its.toArray) (I.ok.hd hc) ⟨⟨_, hen⟩, hit, hT'⟩ ⟨by rw [numV_len, List.size_toArray], fun i key v hr => ?_⟩ (by rw [List.size_toArray, ← rv.length]; exact hz) fun h2 tk hd hk2 => ?_
  · obtain ⟨⟨t, rfl⟩, hv⟩ := hr
    have hv : its[i]? = some v := by simpa using hv
    refine ⟨.inl ((0 + i : Nat) : Int), numV_get its 0 i v hv, ?_⟩
    rw [Nat.zero_add]
    exact decide_eq_true rfl
  · have kv := KV.merge (num_kv 0 rv) (kvs := []) (vs := []) .nil
    have len : (mergeK [] (numbered 0 xs)).length ≤ sizeLine := by
      have := length_mergeK (numbered 0 xs) []
      rw [numbered_len] at this
      have z : (mergeK [] (numbered 0 xs)).length ≤ 0 + xs.length := this
      omega
    have big : sysModules < h'.objs.size := I2.big
    have newE : ∀ b o, s1.heap.get? b = some o → h2.get? b = some o := fun b o hb => hk2 b o (fun hm => by
      have lt := Heap.lt_size hb
      simp only [List.mem_cons, List.not_mem_nil, or_false] at hm
      rcases hm with z | z
      · exact Nat.ne_of_lt (Nat.lt_succ_of_lt lt) z
      · exact Nat.ne_of_lt lt z) (hk b o hb)
    exact ⟨.ref h'.objs.size, _, I1.laid (t' := tk) (o := .dK (mergeK [] (numbered 0 xs))) newE (by rw [hsz]; omega) ⟨len, by
      have : h'.objs.size ≠ sysModules := Nat.ne_of_gt big
      simpa using this, _, kv, hd⟩, rfl, q _ (I1.hok.fresh (by rw [hsz]; omega))⟩
end RO

namespace RO
open PySem PySem.Spec PyProof.Rows L2

/-! ### data of any make: lists, tuples and dicts in one -/
mutual
inductive Tg (K : PySem.W.Frag) (H : Hp) : V → PyData → Prop
  | non : Tg K H .non .none
  | bl (b : Bool) : Tg K H (.bl b) (.bool b)
  | int (i : Int) : Tg K H (.int i) (.int i)
  | str (t : Str) : Tg K H (.str t) (.str t)
  | tup {a : Addr} {xs : List V} {ds : List PyData} : SqT K H a xs → TgAll K H xs ds → Tg K H (.ref a) (.tuple ds)
  | lst {a : Addr} {xs : List V} {ds : List PyData} : SqL K H a xs → a ≠ sysModules → TgAll K H xs ds → Tg K H (.ref a) (.list ds)
  | dct {a : Addr} {kvs : List (Key × V)} {es : List (PyData × PyData)} : H a = some (.dK kvs) → TgKv K H kvs es → Tg K H (.ref a) (.dict es)
inductive TgAll (K : PySem.W.Frag) (H : Hp) : List V → List PyData → Prop
  | nil : TgAll K H [] []
  | cons {v : V} {vs : List V} {d : PyData} {ds : List PyData} : Tg K H v d → TgAll K H vs ds → TgAll K H (v :: vs) (d :: ds)
inductive TgKv (K : PySem.W.Frag) (H : Hp) : List (Key × V) → List (PyData × PyData) → Prop
  | nil : TgKv K H [] []
  | cons {k : Key} {v : V} {kvs : List (Key × V)} {e : PyData} {es : List (PyData × PyData)} : Tg K H v e → TgKv K H kvs es → TgKv K H ((k, v) :: kvs) ((keyD k, e) :: es)
end
section
variable {X : Cx} {pins : List (Addr × Obj)} {σ : L2.St} {H : Hp} {s : Shared}
mutual
theorem Tg.reads (I : Inv X pins σ H s) : ∀ (d : PyData) (v : V) (u : Value), Tg X.K H v d → RelV v u → ∃ as, Reads s.heap u d as ∧ sysModules ∉ as
  | .none, _, _, h, r => by
    cases h
    cases r
    exact ⟨_, Reads.none, by simp⟩
  | .bool b, _, _, h, r => by
    cases h
    cases r
    exact ⟨_, Reads.bool b, by simp⟩
  | .int i, _, _, h, r => by
    cases h
    obtain ⟨t, rfl⟩ := r
    exact ⟨_, Reads.int i t, by simp⟩
  | .str x, _, _, h, r => by
    cases h
    obtain ⟨t, rfl⟩ := r
    exact ⟨_, Reads.str x t, by simp⟩
  | .list ds, _, _, h, r => by
    cases h with
    | lst hs hn0 ha =>
      cases r
      obtain ⟨its, rv, p, _⟩ := I.list hs
      obtain ⟨o, ho, hc, n, hd⟩ := p.isList
      obtain ⟨as, hr, hn⟩ := Tg.readsAll I ds _ its ha rv
      exact ⟨_, Reads.list ho hc hd hr, by simpa using ⟨Ne.symm hn0, hn⟩⟩
  | .tuple ds, _, _, h, r => by
    cases h with
    | tup hs ha =>
      cases r
      obtain ⟨its, rv, ⟨o, ho, hc, n, hd⟩, _⟩ := I.tuple hs
      obtain ⟨as, hr, hn⟩ := Tg.readsAll I ds _ its ha rv
      exact ⟨_, Reads.tuple ho hc hd hr, hn⟩
  | .dict kes, _, _, h, r => by
    cases h with
    | dct ha hkv =>
      cases r
      obtain ⟨_, hs, vs, rel, o, es, ep, ho, hx, hdat, hk, hp, _⟩ := dk_of I.hok ha
      obtain ⟨as, r1, r2, n2⟩ := Tg.readsKv I kes _ vs es.toList hkv rel hp
      exact ⟨_, Reads.dict ho hx.1 hdat r1 r2, by simpa using ⟨sys_ne2 hs, n2⟩⟩
theorem Tg.readsAll (I : Inv X pins σ H s) : ∀ (ds : List PyData) (vs : List V) (us : List Value), TgAll X.K H vs ds → Vals vs us → ∃ as, ReadsAll s.heap us ds as ∧ sysModules ∉ as
  | [], _, _, h, r => by
    cases h
    cases r
    exact ⟨_, ReadsAll.nil, by simp⟩
  | d :: ds, _, _, h, r => by
    cases h with
    | cons h1 h2 =>
      cases r with
      | cons r1 r2 =>
        obtain ⟨as, q1, n1⟩ := Tg.reads I d _ _ h1 r1
        obtain ⟨bs, q2, n2⟩ := Tg.readsAll I ds _ _ h2 r2
        exact ⟨_, ReadsAll.cons q1 q2, by simpa using ⟨n1, n2⟩⟩
theorem Tg.readsKv (I : Inv X pins σ H s) : ∀ (es : List (PyData × PyData)) (kvs : List (Key × V)) (vs : List (Key × Value)) (el : List DictEntry), TgKv X.K H kvs es → KV kvs vs → PySem.Pairs (mixKind X.prog X.w) el vs →
    ∃ as, ReadsAll s.heap (el.map (·.key)) (es.map (·.1)) [] ∧ ReadsAll s.heap (el.map (·.val)) (es.map (·.2)) as ∧ sysModules ∉ as
  | [], _, _, _, h, r, p => by
    cases h
    cases r
    cases p
    exact ⟨_, .nil, .nil, by simp⟩
  | (kd, e) :: es, _, _, _, h, r, p => by
    cases h with
    | cons h1 h2 =>
      cases r with
      | @cons _ qv _ _ r1 r2 =>
        obtain ⟨er, rx⟩ := r1
        cases p with
        | @cons en _ _ _ p1 p2 p3 =>
          obtain ⟨as, q1, n1⟩ := Tg.reads I e _ _ h1 rx
          obtain ⟨bs, k2, q2, n2⟩ := Tg.readsKv I es _ _ _ h2 r2 p3
          have er : _ = qv.1 := er
          dsimp only at er
          have rv : Reads s.heap en.val e as := by
            rw [p2]
            exact q1
          refine ⟨_, .cons (as := []) (bs := []) ?_ k2, .cons rv q2, by simpa using ⟨n1, n2⟩⟩
          show Reads s.heap en.key (keyD _) []
          rw [er]
          exact keyD_reads p1
end
end
theorem repD_kv {es : List (PyData × PyData)} {k m n : Nat} : (∀ p ∈ es, RepD p.1 k m ∧ RepD p.2 k n) → PyData.showableKv es = true ∧ PyData.depthKv es ≤ k ∧ PyData.leavesShortKv 400 es = true ∧ PyData.bulkKv es ≤ es.length * (m + n + 2) := by
  induction es with
  | nil => intro _; exact ⟨rfl, Nat.zero_le _, rfl, Nat.zero_le _⟩
  | cons p r ih =>
    intro h
    obtain ⟨h1, h3, h4, h5⟩ := ih fun x hx => h x (List.mem_cons_of_mem _ hx)
    obtain ⟨q1, q2⟩ := h p (List.mem_cons_self ..)
    obtain ⟨a, b⟩ := p
    dsimp only at q1 q2
    refine ⟨?_, ?_, ?_, ?_⟩
    · simp [PyData.showableKv, q1.sh, q2.sh, h1]
    · have := q1.dp
      have := q2.dp
      simp [PyData.depthKv]
      omega
    · simp [PyData.leavesShortKv, q1.lv, q2.lv, h4]
    · have := q1.bk
      have := q2.bk
      have e : (r.length + 1) * (m + n + 2) = r.length * (m + n + 2) + (m + n + 2) := Nat.succ_mul _ _
      simp only [PyData.bulkKv, List.length_cons]
      omega
theorem RepD.dct {es : List (PyData × PyData)} {k m n : Nat} (h : ∀ p ∈ es, RepD p.1 k m ∧ RepD p.2 k n) : RepD (.dict es) (k + 1) (es.length * (m + n + 2)) := by
  obtain ⟨h1, h3, h4, h5⟩ := repD_kv h
  exact ⟨by simpa only [PyData.showable] using h1, by simp only [PyData.depth]; omega, by simpa only [PyData.leavesShort] using h4, by simpa only [PyData.bulk] using h5⟩
theorem RepD.list {ds : List PyData} {k n : Nat} (h : ∀ d ∈ ds, RepD d k n) : RepD (.list ds) (k + 1) (ds.length * (n + 1)) := by
  obtain ⟨h1, h3, h4, h5⟩ := repD_all h
  exact ⟨by simpa only [PyData.showable] using h1, by simp only [PyData.depth]; omega, by simpa only [PyData.leavesShort] using h4, by simpa only [PyData.bulk] using h5⟩
/-- heaps that keep a thing's cells keep its data -/
structure Kps (K : PySem.W.Frag) (H H1 : Hp) : Prop where
  t : ∀ a xs, SqT K H a xs → SqT K H1 a xs
  l : ∀ a xs, SqL K H a xs → SqL K H1 a xs
  d : ∀ a kvs, H a = some (.dK kvs) → H1 a = some (.dK kvs)
theorem Kps.of_same {K : PySem.W.Frag} {H H1 : Hp} (s : Same H H1) : Kps K H H1 := ⟨fun _ _ q => same_seqT s q, fun _ _ q => same_seqL s q, fun _ _ q => s _ _ q⟩
mutual
theorem tg_keep {K : PySem.W.Frag} {H H1 : Hp} (s : Kps K H H1) : ∀ (d : PyData) (v : V), Tg K H v d → Tg K H1 v d
  | .none, _, h => by cases h; exact .non
  | .bool b, _, h => by cases h; exact .bl b
  | .int i, _, h => by cases h; exact .int i
  | .str x, _, h => by cases h; exact .str x
  | .list ds, _, h => by
    cases h with
    | lst hs n ha => exact .lst (s.l _ _ hs) n (tgAll_keep s ds _ ha)
  | .tuple ds, _, h => by
    cases h with
    | tup hs ha => exact .tup (s.t _ _ hs) (tgAll_keep s ds _ ha)
  | .dict es, _, h => by
    cases h with
    | dct ha hk => exact .dct (s.d _ _ ha) (tgKv_keep s es _ hk)
theorem tgAll_keep {K : PySem.W.Frag} {H H1 : Hp} (s : Kps K H H1) : ∀ (ds : List PyData) (vs : List V), TgAll K H vs ds → TgAll K H1 vs ds
  | [], _, h => by cases h; exact .nil
  | d :: ds, _, h => by
    cases h with
    | cons h1 h2 => exact .cons (tg_keep s d _ h1) (tgAll_keep s ds _ h2)
theorem tgKv_keep {K : PySem.W.Frag} {H H1 : Hp} (s : Kps K H H1) : ∀ (es : List (PyData × PyData)) (kvs : List (Key × V)), TgKv K H kvs es → TgKv K H1 kvs es
  | [], _, h => by cases h; exact .nil
  | (_, e) :: es, _, h => by
    cases h with
    | cons h1 h2 => exact .cons (tg_keep s e _ h1) (tgKv_keep s es _ h2)
end
/-- data, of any make -/
inductive Tz (K : PySem.W.Frag) (H : Hp) : V → PyData → Prop
  | dp {v : V} {d : PyData} {k n : Nat} : Dp K H v d → RepOk d k n → k ≤ 40 → n ≤ 40000 → Tz K H v d
  | tg {a : Addr} {d : PyData} {k n : Nat} : Tg K H (.ref a) d → RepD d k n → k ≤ 40 → n ≤ 40000 → Tz K H (.ref a) d
def rRepr6 (K : PySem.W.Frag) : List V → Hp → VK → Prop := fun xs H Q => ∃ v d, xs = [v] ∧ Tz K H v d ∧ Q (.str d.shown) H
theorem call_repr6 {X : Cx} (hG : X.A.guards = some []) (hu : X.A.units + 64 < cLine) : CallR X (.builtin "repr") (rRepr6 X.K) := by
  intro pins s σ H xs us Q I r h
  obtain ⟨v, d, e, hd, q⟩ := h
  cases hd with
  | dp h1 h2 h3 h4 => exact call_reprD hG hu pins s σ H xs us Q I r ⟨v, d, _, _, e, h1, h2, h3, h4, q⟩
  | @tg a _ k n h1 h2 h3 h4 =>
    subst e
    rw [Vals.ref1 r]
    obtain ⟨as, rd, nos⟩ := Tg.reads I d (.ref a) (.ref a) h1 rfl
    have fin : ∀ (h' : Heap) (u : Tok) (tk : Nat), (∀ b o, s.heap.get? b = some o → h'.get? b = some o) → EP X pins σ Q (.str d.shown u) { s with heap := h', toks := tk } :=
      fun h' u tk hk => ⟨.str d.shown, H, I.un (Un.kept hk) (I.hok.kept hk), ⟨u, rfl⟩, q⟩
    have dp := h2.dp
    exact repr_of_reads' rd h2.sh (fun _ => nos) hG (by omega) (fun _ _ z => z) fin (h2.fits h4)
theorem k_repr6 (K : PySem.W.Frag) {X : Cx} (hG : X.A.guards = some []) (hu : X.A.units + 64 < cLine) (h : X.K = K := by rfl) : CallR X (.builtin "repr") (rRepr6 K) := by
  subst h
  exact call_repr6 hG hu
/-! ### a new list, and where it does not lie -/
def tLstB (t : TA) : TE := fun σ H Q => t σ H fun vs H1 => vs.length ≤ sizeLine ∧ ∀ p, H1 p = none → p ≠ sysModules → Q (.ref p) (upd H1 p (.lst vs))
theorem pe_lstB {X : Cx} {es : List Expr} {t : TA} {pos : Pos} (h : PA X es t) : PE X (.List es pos) (tLstB t) := by
  refine ⟨fun pins s σ H Q I hq => ?_⟩
  refine wpAny_List_spliced (thn (h.run pos pins s σ H (fun xs H1 => xs.length ≤ sizeLine ∧ ∀ p, H1 p = none → p ≠ sysModules → Q (.ref p) (upd H1 p (.lst xs))) I hq) fun us s1 ⟨xs, H1, I1, r, z, q⟩ => ?_)
  refine ⟨by rw [← r.length]; exact z, ?_⟩
  have hf := I1.hok.fresh (Nat.le_refl s1.heap.objs.size)
  exact ⟨.ref s1.heap.objs.size, upd H1 s1.heap.objs.size (.lst xs), I1.laid (t' := s1.toks) (fun b u e => Heap.get?_push_of_some { cls := .type "list", data := .seq us.toArray } e) (Nat.le_refl _)
    ⟨z, us, 0, r, Heap.get?_push_size s1.heap rfl⟩, rfl, q _ hf (Nat.ne_of_gt I1.big)⟩
end RO

namespace RO
open PySem PySem.Spec PyProof.Rows L2

/-! ### a list, whatever it holds, beside the empty one -/
def rEqE (K : PySem.W.Frag) : R2 := fun x y H Q => ∃ a b xs, x = .ref a ∧ y = .ref b ∧ SqL K H a xs ∧ SqL K H b [] ∧ Q (.bl xs.isEmpty) H
theorem k_eqE (K : PySem.W.Frag) {X : Cx} (hu : X.A.units + 64 < cLine) (h : X.K = K := by rfl) : OpR X (compareOp .Eq) (rEqE K) := by
  subst h
  intro pins s σ H x y v u Q I rx ry h
  obtain ⟨a, b, xs, rfl, rfl, h1, h2, q⟩ := h
  cases xs with
  | nil =>
    refine k_eqD (K := X.K) hu rfl pins s σ H _ _ v u Q I rx ry ⟨.list [], .list [], .lst h1 .nil, .lst h2 .nil, rfl, rfl, ?_⟩
    exact q
  | cons x xs =>
    cases rx
    cases ry
    obtain ⟨i1, r1, p1, _⟩ := I.list h1
    obtain ⟨i2, r2, p2, _⟩ := I.list h2
    cases r2
    have l1 := r1.length
    refine SeqAt.eq_list_lengthsAt p1.isList p2.isList ?_ (by omega) ⟨.bl false, H, I, rfl, q⟩
    rw [List.size_toArray, ← l1]
    rfl
end RO

namespace RO
open PySem PySem.Spec PyProof.Rows L2

/-! ### a lambda as a key: a call of it -/
section
variable {prog : Program} {w : World} {A : Around} {s : Shared}
theorem key_call {f : Addr} {qual : Str} {params : Arguments} {body : Expr} {scope : Scope} {cl : List (Str × Addr)} {pm ctv v : Value} {c' : Addr} {x : Str} {k : PyData} (room : A.depth < recursionLimit) (lim : s.heap.NoLimit)
    (ho : s.heap.get? f = some (PySem.W.kla_obj "<lambda>" qual params body scope cl pm c' ctv)) (hc : s.heap.CodeRec (.ref c') qual) (kind : scope.kind = .function) (co : scope.isCoroutine = false) (gen : scope.isGenerator = false)
    (nocell : ∀ y ∈ scope.names, y.2 ≠ .cell) (hx : scope.names.lookup x = some .local) (hb : bindArgs (PySem.W.kla_fn "<lambda>" qual params body scope cl pm (.ref c') ctv) ⟨[v], []⟩ = pure [(x, v)])
    (run : ∀ (L : Addr) (h1 : Heap) (tk : Nat), (∀ b o, s.heap.get? b = some o → h1.get? b = some o) → (h1.Ns L fun y => ([(x, v)] : List (Str × Value)).reverse.lookup y) →
      wpAny (model prog w) (A.deeper (PySem.W.envX qual scope L f (.ref c') cl)) (eval body (PySem.W.envX qual scope L f (.ref c') cl)) (PySem.W.KeyPure k { s with heap := h1, toks := tk }) (fun _ _ => False) { s with heap := h1, toks := tk }) :
    wpAny (model prog w) A (call (.ref f) [v]) (PySem.W.KeyPure k s) (fun _ _ => False) s := by
  refine wpAny_call (PySem.W.kla_callFunE room ho rfl co gen rfl hc ?_)
  rw [hb]
  refine wpAny_pure (wpAny_newFunctionEnv nocell (fun y hy => ?_) (fun h1 hn hs => ⟨lim.fresh _ hs, ?_⟩) kind)
  · obtain rfl : y = (x, v) := List.mem_singleton.mp hy
    exact hx
  · have old : ∀ b o, s.heap.get? b = some o → h1.get? b = some o := fun b o e => hs.extBut b o (Nat.ne_of_lt (Heap.lt_size e)) (Heap.get?_push_of_some _ e)
    show codeAny _ _ (.expr body (PySem.W.envX qual scope s.heap.objs.size f (.ref c') cl)) _ _
    refine PySem.W.kla_codeExpr (wpAny_mono (run _ h1 _ old hn) (fun u s' q => ?_) fun _ _ q => q.elim)
    obtain ⟨h', tk, e, kp, r⟩ := q
    subst e
    exact ⟨h', tk, rfl, fun b o z => kp b o (old b o z), r⟩
/-- the key x[0] -/
theorem key_first {env : Env} {x : Str} {L t : Addr} {h1 : Heap} {tk : Nat} {its : List Value} {k : Int} {u : Tok} {p1 p2 p3 : Pos} {j : Nat} (kind : env.scope.kind = .function) (hx : env.kindOf x = some .local) (hL : env.locals = L)
    (hn : h1.Ns L fun y => ([(x, (Value.ref t))] : List (Str × Value)).reverse.lookup y) (hT : IsTup h1 t its.toArray) (h0 : its[0]? = some (.int k u)) (hd : (x == ("__debug__" : Str)) = false) :
    wpAny (model prog w) A (eval (.Subscript (.Name x p1) (.Constant (.int 0) j p2) p3) env) (PySem.W.KeyPure (.int k) { s with heap := h1, toks := tk }) (fun _ _ => False) { s with heap := h1, toks := tk } := by
  have hm : ([(x, (Value.ref t))] : List (Str × Value)).reverse.lookup x = some (.ref t) := by
    show List.lookup x [(x, Value.ref t)] = _
    simp [List.lookup]
  subst hL
  refine Subscript_ (wpAny_Name (wpAny_loadName_local kind hx hn hm ?_) hd)
  refine wpAny_Constant_int ?_
  have hlen : 0 < its.length := by
    rcases Nat.lt_or_ge 0 its.length with z | z
    · exact z
    · rw [List.getElem?_eq_none (by omega)] at h0
      cases h0
  refine subscriptTail_builtinR (x := .int k u) hT.typeIs slot_tuple_getitem.lookup (getItem_tuple (j := 0) hT (by decide) (by decide) ?_ (by simpa using h0) ⟨rfl, ?_⟩) rfl
  · unfold seqIndex?
    simp [hlen]
  · exact ⟨h1, tk + 1, rfl, fun _ _ z => z, .int _ _⟩
end

/-! ### sorted(e, key=lambda x: x[0]) -/
open LamX
def byFst (bs : List (Addr × Int)) : List (Addr × Int) := bs.mergeSort fun a b => decide (a.2 ≤ b.2)
def tSortR (K : PySem.W.Frag) (T : List (Addr × Str)) (te : TE) : TE := fun σ H Q => te σ H fun v H1 => ∃ (a : Addr) (bs : List (Addr × Int)), v = .ref a ∧ SqL K H1 a (bs.map fun b => V.ref b.1) ∧ (∀ b ∈ bs, ∃ rest, SqT K H1 b.1 (V.int b.2 :: rest)) ∧ Tabs T H1 ∧
  ∀ H2, ExtN H1 H2 → Tabs T H2 → ∀ l, H2 l = none → Q (.ref l) (upd H2 l (.lst ((byFst bs).map fun b => V.ref b.1)))
theorem each_vals {R : Value → Addr × Int → Prop} (hR : ∀ v b, R v b → v = .ref b.1) : ∀ {out : List Value} {bs : List (Addr × Int)}, PySem.W.EachIs R out bs → Vals (bs.map fun b => V.ref b.1) out
  | _, _, .nil => .nil
  | _, _, .cons r h => .cons (hR _ _ r) (each_vals hR h)
theorem vals_each {R : Value → Addr × Int → Prop} : ∀ {bs : List (Addr × Int)} {vs : List Value}, Vals (bs.map fun b => V.ref b.1) vs → (∀ b ∈ bs, R (.ref b.1) b) → PySem.W.EachIs R vs bs
  | [], _, h, _ => by
    cases h
    exact .nil
  | b :: bs, _, h, g => by
    cases h with
    | cons h1 h2 =>
      obtain rfl := h1
      exact .cons (g b (List.mem_cons_self ..)) (vals_each h2 fun y hy => g y (List.mem_cons_of_mem _ hy))
section
variable {X : Cx}
theorem pe_sortR (K : PySem.W.Frag) {T : List (Addr × Str)} {c P : Addr} {e : Expr} {te : TE} {params : Arguments} {scope : Scope} {x : Str} {k j : Nat} {p p1 p2 p3 lpos kpos pos : Pos}
    (hg : Gl X "sorted") (hm : X.mg "sorted" = none) (TB : TabB X.base X.mg c P) (hcode : X.env.code = .ref c) (hT : (P, X.env.qual ++ "<lambda>") ∈ T) (hu : ∀ q ∈ T, q.1 = P → q.2 = X.env.qual ++ "<lambda>") (hr : Room (k + 2) X.A) (he : PE X e te) (hK : X.K = K := by rfl) (hs : starEach [e] X.env = (false, eval e X.env) :: starEach [] X.env := by rfl)
    (hdef : defaultsOf params X.env = ([], []) := by rfl) (kind : scope.kind = .function := by rfl) (co : scope.isCoroutine = false := by rfl) (gen : scope.isGenerator = false := by rfl)
    (nocell : ∀ y ∈ scope.names, y.2 ≠ .cell := by decide) (nofree : ∀ y ∈ scope.names, y.2 ≠ .free := by decide) (hx : scope.names.lookup x = some .local := by rfl) (hd : (x == ("__debug__" : Str)) = false := by decide)
    (hb : ∀ (q : Str) (cl : List (Str × Addr)) (pm cv ctv v : Value), bindArgs (PySem.W.kla_fn "<lambda>" q params (.Subscript (.Name x p1) (.Constant (.int 0) j p2) p3) scope cl pm cv ctv) ⟨[v], []⟩ = pure [(x, v)] := by intros; rfl) :
    PE X (.Call (.Name "sorted" p) [e] [⟨some "key", .Lambda params (.Subscript (.Name x p1) (.Constant (.int 0) j p2) p3) scope lpos, kpos⟩] pos) (tSortR K T te) := by
  subst hK
  refine ⟨fun pins s σ H Q I h => ?_⟩
  refine wpAny_Call_Name_kw (ld_blt I hg hm rfl ?_)
  refine PyProof.Rows.callWith_kw (thn ((pa_cons he pa_nil hs).run pos pins s σ H (fun vs H1 => match vs with
    | [v] => ∃ (a : Addr) (bs : List (Addr × Int)), v = .ref a ∧ SqL X.K H1 a (bs.map fun b => V.ref b.1) ∧ (∀ b ∈ bs, ∃ rest, SqT X.K H1 b.1 (V.int b.2 :: rest)) ∧ Tabs T H1 ∧ ∀ H2, ExtN H1 H2 → Tabs T H2 → ∀ l, H2 l = none → Q (.ref l) (upd H2 l (.lst ((byFst bs).map fun b => V.ref b.1)))
    | _ => False) I h) fun us s1 q1 => ?_) (by rw [hs]; rfl) (by rw [hs]; rfl) rfl rfl
  obtain ⟨vs, H1, I1, r1, q1⟩ := q1
  match vs, r1, q1 with
  | [v], r1, ⟨a, bs, ev, hL, hTs, tabs, q⟩ =>
    subst ev
    rw [Vals.ref1 r1]
    show wpAny _ _ (evalAll [(do let v ← eval (.Lambda params (.Subscript (.Name x p1) (.Constant (.int 0) j p2) p3) scope lpos) X.env; standAt pos; pure v)]) _ _ s1
    refine wpAny_evalAll_cons (wpAny_bind (lam_make2 I1 TB hcode hT hu tabs hdef (fun y hy z => (nofree y hy z).elim) fun f c' pm ctv H2 s2 I2 ext tabs2 hf hfn hfr hc => wpAny_bind (wpAny_standAt (wpAny_pure (wpAny_evalAll_nil ?_)))))
    show wpAny _ _ (call (.builtin "sorted") [.ref a] [(Str.ofString "key", .ref f)]) _ _ s2
    -- the list, the tuples in it
    have hL2 : SqL X.K H2 a (bs.map fun b => V.ref b.1) := by
      rcases hL with (z | ⟨o, z⟩) | z
      · exact .inl (.inl (ext _ _ z (fun ps => nofun)))
      · exact .inl (.inr ⟨o, ext _ _ z (fun ps => nofun)⟩)
      · exact .inr z
    have hT2 : ∀ b ∈ bs, ∃ (its : List Value) (u : Tok), IsTup s2.heap b.1 its.toArray ∧ its[0]? = some (.int b.2 u) := fun b hb => by
      obtain ⟨rest, z⟩ := hTs b hb
      have z2 : SqT X.K H2 b.1 (V.int b.2 :: rest) := by
        rcases z with (z | ⟨o, z⟩) | z
        · exact .inl (.inl (ext _ _ z (fun ps => nofun)))
        · exact .inl (.inr ⟨o, ext _ _ z (fun ps => nofun)⟩)
        · exact .inr z
      obtain ⟨its, r, ht, _⟩ := I2.tuple z2
      cases r with
      | cons r0 _ =>
        obtain ⟨u, rfl⟩ := r0
        exact ⟨_, u, ht, rfl⟩
    obtain ⟨its, r, hl, hz⟩ := I2.list hL2
    have len : its.length = bs.length := by
      have := r.length
      rw [List.length_map] at this
      omega
    have hz2 : bs.length ≤ sizeLine := by
      rw [List.length_map] at hz
      exact hz
    have ee := vals_each (R := fun v b => v = .ref b.1 ∧ b ∈ bs) r fun b hb => ⟨rfl, hb⟩
    have un := hr.un
    have dp := hr.dp
    refine PySem.W.sorted_key_data (b := false) (fun b : Addr × Int => .int b.2) hl.isList ee (PySem.W.AllAlike.of fun _ _ => rfl) (PySem.W.Sortable.others fun b => ⟨nofun, fun _ => nofun⟩) hz2 (fun b _ => ?_) (PyProof.Rows.ksk_s1 _ _) (fun _ => PyProof.Rows.ksk_l1 _ _) (fun _ => PyProof.Rows.ksk_t1 _ _)
      (fun v b hv hb2 h tk kp => ?_) fun out cc h' tk kp fr hD ll eo => ?_
    · show X.A.units + 2 + 0 < cLine
      omega
    · obtain ⟨rfl, _⟩ := hv
      obtain ⟨it, u, ht, h0⟩ := hT2 b hb2
      obtain ⟨oc, vs', t, hoc, hdc, hvc⟩ := (I2.hok c' _ hc).1
      have K1 : ∀ b o, X.base.get? b = some o → h.get? b = some o := fun b o z => kp b o (I2.bk b o z)
      refine key_call (s := { s2 with heap := h, toks := tk }) (x := x) (by show X.A.depth < _; omega) (I2.ok.mod.nolimit.keeps K1) (kp _ _ hf) ⟨c', oc, vs', t, rfl, kp _ _ hoc, hdc, hvc⟩ kind co gen nocell hx (hb _ _ _ _ _ _) fun L h1 tk2 kp2 hn => ?_
      exact key_first (s := { s2 with heap := h, toks := tk }) kind hx rfl hn (ht.keeps fun b o z => kp2 b o (kp b o z)) h0 hd
    · have eo' := eo
      rw [PySem.W.dataLe_int] at eo'
      refine ⟨.ref (s2.heap.objs.size + 1), _, I2.laid (t' := tk) (o := .lst ((byFst bs).map fun b => V.ref b.1)) kp (Nat.le_succ _) ?_, rfl, q H2 ext tabs2 _ (I2.hok.fresh (Nat.le_succ _))⟩
      refine ⟨?_, out, cc, each_vals (fun _ _ z => z.1) eo', hD⟩
      rw [List.length_map]
      unfold byFst
      rw [List.length_mergeSort]
      exact hz2
  | [], _, q => exact q.elim
  | _ :: _ :: _, _, q => exact q.elim
end
end RO

namespace RO
open PySem PySem.Spec PyProof.Rows L2 LamX

/-! ### what is kept where lambdas are made -/
def ButN (p : Addr) (H H' : Hp) : Prop := ∀ b o, b ≠ p → H b = some o → (∀ ps, o ≠ .tbl ps) → H' b = some o
section
variable {K : PySem.W.Frag} {H H0 H1 H2 : Hp} {p q a c l : Addr} {o : HO} {xs ys : List V} {n m : Nat} {T : List (Addr × Str)}
theorem ButN.of_but (h : But p H H1) : ButN p H H1 := fun b u n e _ => h b u n e
theorem ButN.of_same (h : Same H H1) : ButN p H H1 := fun b u _ e _ => h b u e
theorem ButN.of_ext (h : ExtN H H1) : ButN p H H1 := fun b u _ e z => h b u e z
theorem ButN.trans (h : ButN p H H1) (h2 : ButN p H1 H2) : ButN p H H2 := fun b u n e z => h2 b u n (h b u n e z) z
theorem ButN.own (h : ButN p H0 H) (hl : H0 l = none) : ButN p H0 (upd H l o) := fun b u n e z => (upd_ne (ne_of_none e hl)).trans (h b u n e z)
theorem ButN.rd {u : HO} (h : ButN p H H1) (n : a ≠ p) (z : ∀ ps, u ≠ .tbl ps) (r : Rd H a u) : Rd H1 a u := by
  rcases r with r | ⟨o, r⟩
  · exact .inl (h _ _ n r z)
  · exact .inr ⟨o, h _ _ n r fun _ => nofun⟩
theorem ButN.seqL (h : ButN p H H1) (n : a ≠ p) (r : SqL K H a xs) : SqL K H1 a xs := r.imp (h.rd n fun _ => nofun) id
theorem ButN.seqT (h : ButN p H H1) (n : a ≠ p) (r : SqT K H a xs) : SqT K H1 a xs := r.imp (h.rd n fun _ => nofun) id
theorem ButN.seqT' (h : ButN p H H1) (hp : H p = some (.lst ys)) (r : SqT K H a xs) : SqT K H1 a xs := by
  rcases r with r | r
  · have n : a ≠ p := by
      rcases r with r | ⟨o, r⟩
      · exact ne_of r hp nofun
      · exact ne_of r hp nofun
    exact .inl (h.rd n (fun _ => nofun) r)
  · exact .inr r
/-- tables stay tables -/
theorem tabs_same (t : Tabs T H) (h : Same H H1) : Tabs T H1 := t.ext h
theorem tabS_moved {P : Addr} {t : Str} (h : TabS H P t) (f : ∀ b o, H b = some o → (∀ ys, o ≠ .lst ys) → H1 b = some o) : TabS H1 P t := by
  obtain ⟨ps, e1, e2, e3⟩ := h
  refine ⟨ps, f _ _ e1 fun _ => nofun, e2, fun pos cv hc => ?_⟩
  obtain ⟨d, d1, d2⟩ := e3 pos cv hc
  exact ⟨d, d1, f _ _ d2 fun _ z => by unfold CodeO at z; cases z⟩
theorem tabs_but (t : Tabs T H) (hp : H p = some (.lst ys)) (h : But p H H1) : Tabs T H1 := fun r hr => tabS_moved (t r hr) fun b o e n => h b o (fun z => n ys (by rw [z, hp] at e; exact (Option.some.inj e).symm)) e
theorem tabs_set (t : Tabs T H) (hp : H p = some (.lst ys)) : Tabs T (upd H p o) := tabs_but t hp But.put
theorem tabs_new (t : Tabs T H) (hq : H q = none) : Tabs T (upd H q o) := t.ext fun b u e => (upd_ne (ne_of_none e hq)).trans e
/-- as Go, tables beside -/
structure GoN (K : PySem.W.Frag) (T : List (Addr × Str)) (p c : Addr) (H0 : Hp) (n : Nat) (H : Hp) : Prop where
  but : ButN p H0 H
  pen : PenAt H p c n
  cel : Cells K H p c
  tab : Tabs T H
theorem Cells.butN (h : Cells K H p c) (b : ButN p H H1) : Cells K H1 p c := by
  obtain ⟨ne, ns, r, l⟩ := h
  exact ⟨ne, ns, b.seqL ne r, l⟩
theorem GoN.refl (h : PenAt H p c n) (hc : Cells K H p c) (t : Tabs T H) : GoN K T p c H n H := ⟨.of_same (Same.refl _), h, hc, t⟩
theorem GoN.self (g : GoN K T p c H0 n H) : GoN K T p c H n H := ⟨.of_same (Same.refl _), g.pen, g.cel, g.tab⟩
theorem GoN.go0 (g : GoN K T p c H0 n H) : Go K p c H n H := Go.refl g.pen g.cel
theorem GoN.mono (g : GoN K T p c H0 n H) (hm : n ≤ m) : GoN K T p c H0 m H := ⟨g.but, g.pen.mono hm, g.cel, g.tab⟩
theorem GoN.trans (g : GoN K T p c H0 n H1) (g2 : GoN K T p c H1 m H2) : GoN K T p c H0 m H2 := ⟨g.but.trans g2.but, g2.pen, g2.cel, g2.tab⟩
theorem GoN.of_go (g : Go K p c H0 n H) (hp : H0 p = some (.lst ys)) (t : Tabs T H0) : GoN K T p c H0 n H := ⟨.of_but g.but, g.pen, g.cel, tabs_but t hp g.but⟩
theorem GoN.go (g : GoN K T p c H0 n H1) (g2 : Go K p c H1 m H2) : GoN K T p c H0 m H2 := by
  obtain ⟨_, _, e, _⟩ := id g.pen
  exact ⟨g.but.trans (.of_but g2.but), g2.pen, g2.cel, tabs_but g.tab e g2.but⟩
theorem GoN.same (g : GoN K T p c H0 n H) (h : Same H H1) : GoN K T p c H0 n H1 := by
  obtain ⟨i, j, e, r⟩ := id g.pen
  exact ⟨g.but.trans (.of_same h), ⟨i, j, h _ _ e, r⟩, g.cel.but (But.of_same h), g.tab.ext h⟩
theorem GoN.ext (g : GoN K T p c H0 n H) (h : ExtN H H1) (t : Tabs T H1) : GoN K T p c H0 n H1 := by
  obtain ⟨i, j, e, r⟩ := id g.pen
  exact ⟨g.but.trans (.of_ext h), ⟨i, j, h _ _ e (fun _ => nofun), r⟩, g.cel.butN (.of_ext h), t⟩
theorem GoN.tracked (g : GoN K T p c H0 n H) : ∃ ys, H p = some (.lst ys) := by
  obtain ⟨_, _, e, _⟩ := g.pen
  exact ⟨_, e⟩
theorem GoN.ne_new (g : GoN K T p c H0 n H) (hq : H q = none) : p ≠ q := by
  obtain ⟨o, e⟩ := g.tracked
  exact ne_of_none e hq
theorem GoN.new (g : GoN K T p c H0 n H) (hq : H q = none) : GoN K T p c H0 n (upd H q o) := g.same (same_new (Same.refl _) hq)
/-- an own list is written: it was free at the beginning -/
theorem GoN.own (g : GoN K T p c H0 n H) (hl : H0 l = none) (hy : H l = some (.lst ys)) (hp : l ≠ p) (hc : Cells K H0 p c) : GoN K T p c H0 n (upd H l o) := by
  obtain ⟨i, j, e, r⟩ := id g.pen
  exact ⟨g.but.own hl, ⟨i, j, (upd_ne (Ne.symm hp)).trans e, r⟩, hc.butN (g.but.own hl), tabs_set g.tab hy⟩
end
theorem RowsAt.butN {K : PySem.W.Frag} {H H1 : Hp} {p : Addr} {ys : List V} {as : List Addr} {rs : List Row} (h : RowsAt K H as rs) (hp : H p = some (.lst ys)) (b : ButN p H H1) : RowsAt K H1 as rs := h.imp fun _ _ q => b.seqT' hp q
theorem LogAt.butN {K : PySem.W.Frag} {H H1 : Hp} {p t : Addr} {ys : List V} {rs : List Row} (h : LogAt K H t rs) (hp : H p = some (.lst ys)) (b : ButN p H H1) : LogAt K H1 t rs := by
  obtain ⟨as, h1, h2⟩ := h
  exact ⟨as, b.seqT' hp h1, h2.butN hp b⟩

/-! ### a def whose code object is known -/
section
variable {P : Program} {w : World} {K : PySem.W.Frag} {mg : Str → Option Value} {base : Heap}
theorem okC {x qual : Str} {st : Stmt} {f cc : Addr} {fd : FuncData} {N ps : List Str} {k : Nat} {sp : Sp} (F : Fun K x qual st f fd) (hcc : fd.code = .ref cc) (S : FnScope N ps (defScope st)) (len : ∀ vs H Q E, sp vs H Q E → vs.length = ps.length)
    (hb : ∀ (A : Around) (outer : List Env) (s : Shared) (H : Hp) (vs : List V) (Q : VK) (E : XK), Room k (A.deeper (envOfC qual (defScope st) s.heap.objs.size f (.ref cc))) → sp vs H Q E →
      ∃ t, PSs (cxOf CX0 P w K mg base N qual (defScope st) f (.ref cc) A outer s H E).nox (defBody st) t ∧ t { nx := fun _ H' => Q .non H', rt := Q } (start N vs) H) : FnOk P w K mg base CX0 (k + 1) f fd ps sp := by
  obtain ⟨oc, od, kV, doc, pm, an, cdv, ct, osl, e, lk, hcd⟩ := F.ex
  subst e
  have e2 : cdv = .ref cc := hcc
  subst e2
  refine fn_of lk hcd S len fun A out s H vs Q E hr hs => ?_
  obtain ⟨t, h, q⟩ := hb A out s H vs Q E hr hs
  exact ⟨t, h.nox, q⟩
end

/-! ### the law's end, tables of code objects beside the script -/
/-- the table of a code object -/
def tabOf (K : PySem.W.Frag) (c : Addr) : Addr := match K.lookup c with
  | some ob => (match ob.data with
    | .fields vs => (match (vs[11]? : Option Value) with
      | some (.ref P) => P
      | _ => 0)
    | _ => 0)
  | none => 0
def scriptT (K : PySem.W.Frag) (Ps : List Addr) (a : Addr) (ob : Obj) (ns : List Int) : Hp := fun b => if b ∈ Ps then some (.tbl #[]) else scriptH K a ob ns b
structure TabsOk (K : PySem.W.Frag) (h : Heap) (cs : List Addr) : Prop where
  tab : ∀ c ∈ cs, h.get? (tabOf K c) = some { cls := .none, data := .fields #[] }
  out : ∀ c ∈ cs, K.lookup (tabOf K c) = none
  code : ∀ c ∈ cs, PySem.W.CodeHd h c (tabOf K c)
theorem law_runsT {P : Program} {w : World} {K : PySem.W.Frag} {mg mb : Str → Option Value} {k : Nat} {fa a : Addr} {cs : List Addr} {fd : FuncData} {x : Str} {sp : Sp} {s1 : Shared} {vs : List Value} {ns : List Int}
    (hK : K.In s1.heap) (hm : s1.heap.Ns mainGlobals mg) (hb : s1.heap.Ns builtinsNs mb) (hbb : ∀ y : Str, y ≠ "__name__" → mb y = bootBuiltins y) (hL : s1.heap.NoLimit) (hgn : s1.gens = #[])
    (TO : TabsOk K s1.heap cs) (hbm : ∃ (bm : Addr) (ob : Obj), mg "__builtins__" = some (.ref bm) ∧ bm ≠ builtinsNs ∧ s1.heap.get? bm = some ob ∧ ob.cls = .type "module" ∧ ob.dict = some builtinsNs ∧ ob.data = .plain)
    (ha : s1.heap.get? a = some { cls := .type "list", data := .seq vs.toArray }) (hi : IntsAre vs ns) (hn : ns.length ≤ sizeLine) (hr : Room k callerA)
    (F : ∀ base : Heap, K.In base → base.Ns mainGlobals mg → (∀ c ∈ cs, TabB base mg c (tabOf K c)) → GOk P w K mg base CX0 k fa fd [x] sp) (hbd : ∀ (s : Shared) (u : Value), BindsTo s fd ⟨[u], []⟩ [(x, u)])
    (hsp : ∀ H : Hp, (∀ c ∈ cs, H (tabOf K c) = some (.tbl #[])) → SqL K H a (ns.map V.int) → sp [.ref a] H (fun v _ => v = .bl true) fun _ _ _ => False) :
    codeAny (model P w) callerA (.call (.ref fa) ⟨[.ref a], []⟩) (fun r s' => r = .ok (.ret (.bool true)) ∧ OldK s1.heap s'.heap ∧ s'.os = s1.os ∧ AllBare s'.gens) s1 := by
  let ob : Obj := { cls := .type "list", data := .seq vs.toArray }
  let Ps : List Addr := cs.map (tabOf K)
  let H : Hp := scriptT K Ps a ob ns
  have inP : ∀ b ∈ Ps, ∃ c ∈ cs, tabOf K c = b := fun b hb => by
    obtain ⟨c, hc, e⟩ := List.mem_map.mp hb
    exact ⟨c, hc, e⟩
  have tabP : ∀ b ∈ Ps, s1.heap.get? b = some { cls := .none, data := .fields #[] } := fun b hb => by
    obtain ⟨c, hc, e⟩ := inP b hb
    rw [← e]
    exact TO.tab c hc
  have aP : a ∉ Ps := fun z => by
    have q := tabP a z
    rw [ha] at q
    cases q
  have cases3 : ∀ b u, H b = some u → (b ∈ Ps ∧ u = .tbl #[]) ∨ (b = a ∧ K.lookup a = none ∧ u = .frz ob (.lst (ns.map V.int))) := by
    intro b u z
    by_cases hb : b ∈ Ps
    · have z2 : (if b ∈ Ps then some (HO.tbl #[]) else scriptH K a ob ns b) = some u := z
      rw [if_pos hb] at z2
      exact .inl ⟨hb, (Option.some.inj z2).symm⟩
    · have z2 : (if b ∈ Ps then some (HO.tbl #[]) else scriptH K a ob ns b) = some u := z
      rw [if_neg hb] at z2
      by_cases c : b = a ∧ K.lookup a = none
      · have z3 : (if b = a ∧ K.lookup a = none then some (HO.frz ob (.lst (ns.map V.int))) else none) = some u := z2
        rw [if_pos c] at z3
        exact .inr ⟨c.1, c.2, (Option.some.inj z3).symm⟩
      · have z3 : (if b = a ∧ K.lookup a = none then some (HO.frz ob (.lst (ns.map V.int))) else none) = some u := z2
        rw [if_neg c] at z3
        cases z3
  have atP : ∀ b ∈ Ps, H b = some (.tbl #[]) := fun b hb => (if_pos hb : (if b ∈ Ps then some (HO.tbl #[]) else scriptH K a ob ns b) = _)
  have rv := vals_ints hi
  have sizes : vs.length = ns.length := hi.length
  have hS : SqL K H a (ns.map V.int) := by
    cases z : K.lookup a with
    | some o =>
      have e := hK a o z
      rw [ha] at e
      cases e
      exact Or.inr ⟨_, vs.toArray, _, z, rfl, rfl, rfl, by rw [List.size_toArray, sizes]; exact hn, by simpa using rv⟩
    | none =>
      refine Or.inl (Or.inr ⟨ob, ?_⟩)
      show (if a ∈ Ps then some (HO.tbl #[]) else scriptH K a ob ns a) = _
      rw [if_neg aP]
      exact if_pos ⟨rfl, z⟩
  have hOk : HOk P w H s1.heap := fun b u z => by
    rcases cases3 b u z with ⟨h1, rfl⟩ | ⟨e1, _, e3⟩
    · exact tabP b h1
    · subst e1
      subst e3
      exact ⟨ha, by rw [List.length_map]; exact hn, vs, _, rv, ha⟩
  have stays : ∀ {b : Addr} {o : Obj}, s1.heap.get? b = some o → H b = none → (hidT s1.heap H).get? b = some o := fun e n => hidT_get e n
  -- what is neither a list nor an empty table is not tracked
  have plain : ∀ {b : Addr} {o : Obj}, s1.heap.get? b = some o → (∀ v n, o.data ≠ .seq v n) → o.data ≠ .fields #[] → H b = none := fun {b o} e n1 n2 => by
    cases q : H b with
    | none => rfl
    | some u =>
      rcases cases3 b u q with ⟨h1, _⟩ | ⟨e1, _, _⟩
      · rw [tabP b h1] at e
        cases e
        exact (n2 rfl).elim
      · rw [e1, ha] at e
        cases e
        exact (n1 _ _ rfl).elim
  have keptK : K.In (hidT s1.heap H) := by
    intro b o z
    refine stays (hK b o z) ?_
    cases q : H b with
    | none => rfl
    | some u =>
      rcases cases3 b u q with ⟨h1, _⟩ | ⟨e1, e2, _⟩
      · obtain ⟨c, hc, e⟩ := inP b h1
        rw [← e, TO.out c hc] at z
        cases z
      · rw [e1, e2] at z
        cases z
  have keptN : ∀ {b : Addr} {m : Str → Option Value}, s1.heap.Ns b m → (hidT s1.heap H).Ns b m := by
    rintro b m ⟨o, es, ep, e, d, r⟩
    refine ⟨o, es, ep, stays e (plain e (fun v n z => ?_) fun z => ?_), d, r⟩
    · rw [d] at z
      cases z
    · rw [d] at z
      cases z
  obtain ⟨mc, l1, l2⟩ := hL
  have TB : ∀ c ∈ cs, TabB (hidT s1.heap H) mg c (tabOf K c) := fun c hc => by
    have tp := TO.tab c hc
    obtain ⟨gm, es0, ep0, ge, gd, _⟩ := id hm
    constructor
    · obtain ⟨o, us, file, tf, flags, tg, inF, text, tt, e1, r1, r2, r3, rest⟩ := TO.code c hc
      refine ⟨o, us, file, tf, flags, tg, inF, text, tt, stays e1 (plain e1 (fun v n z => ?_) fun z => ?_), r1, r2, r3, rest⟩
      · rw [r2] at z
        cases z
      · rw [r2] at z
        cases z
        simp at r3
    · obtain ⟨bm, o2, b1, b2, b3, b4, b5, b6⟩ := hbm
      refine ⟨bm, o2, b1, b2, fun z => ?_, fun z => ?_, stays b3 (plain b3 (fun v n z => ?_) fun z => ?_), b4, b5, b6⟩
      · rw [z, ge] at b3
        cases b3
        rw [gd] at b6
        cases b6
      · rw [z, tp] at b3
        cases b3
        cases b6
      · rw [b6] at z
        cases z
      · rw [b6] at z
        cases z
    · intro z
      rw [z, tp] at ge
      cases ge
      cases gd
  have start0 : Env0 P w K mg (hidT s1.heap H) callerA [] s1 H :=
    { frames := rfl
      mod := ⟨keptK, keptN hm, ⟨mb, keptN hb, hbb⟩, ⟨mc, keptN l1, l2⟩⟩
      bs := fun _ _ z => of_hidT z
      bsz := Nat.le_of_eq (hidT_size _ _)
      funs := trivial
      frf := fun b z => absurd (show b ∈ ([] : List Addr) from z) (by simp)
      hok := hOk
      bare := .of_eq hgn }
  apply codeAny_mono ((F _ keptK (keptN hm) TB).runs callerA [] s1 H ⟨[.ref a], []⟩ [.ref a] [.ref a] _ _ hr rfl start0 (hbd s1 (.ref a)) (.cons rfl .nil) (hsp H (fun c hc => atP _ (List.mem_map.mpr ⟨c, hc, rfl⟩)) hS))
  intro r s' h
  match r, h with
  | .error _, h => exact h.elim
  | .ok .next, h => exact h.elim
  | .ok .brk, h => exact h.elim
  | .ok .cont, h => exact h.elim
  | .ok (.ret u), ⟨v, H', os, bare, un, hok', r', q⟩ =>
    have q' : v = .bl true := q
    subst q'
    have r2 : u = Value.bool true := r'
    subst r2
    have grown : ∀ c ∈ cs, ∃ more : Array Value, s'.heap.get? (tabOf K c) = some { cls := .none, data := .fields more } := fun c hc => by
      obtain ⟨more, z⟩ := un.tbls _ _ (atP _ (List.mem_map.mpr ⟨c, hc, rfl⟩))
      exact ⟨_, hok' _ _ z⟩
    have rest : ∀ b o, b ∉ Ps → s1.heap.get? b = some o → s'.heap.get? b = some o := fun b o nb e => by
      cases q : H b with
      | none => exact un.keep b o e q (by intro z; exact absurd (show b ∈ ([] : List Addr) from z) (by simp)) (by simp)
      | some t =>
        rcases cases3 b t q with ⟨h1, _⟩ | ⟨e1, e2, e3⟩
        · exact (nb h1).elim
        · have q2 := q
          rw [e3] at q2
          have f1 := (hOk b _ q2).1
          have f2 := (hok' b _ (un.frzs b ob _ q2)).1
          rw [e] at f1
          rw [f2, f1]
    refine ⟨rfl, ⟨fun b o e => ?_, fun b o e => ?_⟩, os, bare⟩
    · by_cases hb : b ∈ Ps
      · obtain ⟨c, hc, ec⟩ := inP b hb
        obtain ⟨more, hm2⟩ := grown c hc
        have e4 := TO.tab c hc
        rw [← ec] at e ⊢
        rw [e4] at e
        cases e
        exact .inr (.inl ⟨((TO.code c hc).tab e4).isCodeTable, rfl, #[], more, rfl, by rw [Array.empty_append]; exact hm2⟩)
      · exact .inl (rest b o hb e)
    · by_cases hb : b ∈ Ps
      · obtain ⟨c, hc, ec⟩ := inP b hb
        obtain ⟨more, hm2⟩ := grown c hc
        rw [← ec]
        exact ⟨_, hm2⟩
      · exact ⟨o, rest b o hb e⟩
/-- the goal behind the head, tables beside -/
theorem walk_GT {l : PySem.W.OpenLaw} {n k : Nat} {q : Program} {loose : List Str} {XP : (Str → Option Value) → Heap → Prop} {YP : World → Heap → Prop} {d : DefRec} {K : Params → PySem.W.Frag} {x : Str} {sp : PySem.W.Frag → List Addr → Sp}
    (hn : l.most = some n) (hn2 : n ≤ sizeLine) (hdf : d.params.defaults = []) (hr : Room k callerA) (hY : ∀ (w : World) (h : Heap), YP w h → (K w.params).In h)
    (F : ∀ (w : World) (mg : Str → Option Value) (fa : Addr) (h : Heap), YP w h → (K w.params).In h → h.Ns mainGlobals mg → mg d.name = some (.ref fa) →
      ∃ (fd : FuncData) (cs : List Addr), TabsOk (K w.params) h cs ∧ (∀ (s : Shared) (u : Value), BindsTo s fd ⟨[u], []⟩ [(x, u)]) ∧ ∀ base : Heap, (K w.params).In base → base.Ns mainGlobals mg → (∀ c ∈ cs, TabB base mg c (tabOf (K w.params) c)) →
        GOk l.prog w (K w.params) mg base CX0 k fa fd [x] (sp (K w.params) cs))
    (hsp : ∀ (K : PySem.W.Frag) (cs : List Addr) (H : Hp) (a : Addr) (ns : List Int), ns.length ≤ n → (∀ k ∈ ns, Builtin.Int.intBits k ≤ 1048576) → (∀ c ∈ cs, H (tabOf K c) = some (.tbl #[])) → SqL K H a (ns.map V.int) → sp K cs [.ref a] H (fun v _ => v = .bl true) fun _ _ _ => False) :
    PySem.W.WalkO q loose XP YP l.row.toRowW d [] (fun f vs => PySem.call f vs) := by
  apply Att.attach_callB hn hdf
  intro w s0 s1 mg mb fa o pm cd doc a vs ns G Y ho hd hcd hmg hobj hints hlen hbits hg
  have hK := hY w _ Y
  obtain ⟨fd, cs, TO, hb, hF⟩ := F w mg fa _ Y hK G.T.g hmg
  exact law_runsT hK G.T.g G.T.b G.T.builtins G.T.nolimit hg TO G.T.bmain hobj hints (Nat.le_trans hlen hn2) hr hF hb fun H hT hS => hsp (K w.params) cs H a ns hlen hbits hT hS
end RO

namespace RO
open PySem PySem.Spec PyProof.Rows L2

/-! ### things at places, one beside the other -/
inductive At2 {α : Type} (p : Addr → α → Prop) : List Addr → List α → Prop
  | nil : At2 p [] []
  | cons {a : Addr} {x : α} {as : List Addr} {xs : List α} : p a x → At2 p as xs → At2 p (a :: as) (x :: xs)
section
variable {α : Type} {p q : Addr → α → Prop} {as bs : List Addr} {xs ys : List α}
theorem At2.len (h : At2 p as xs) : as.length = xs.length := by
  induction h with
  | nil => rfl
  | cons _ _ ih => exact congrArg (· + 1) ih
theorem At2.imp (h : At2 p as xs) (f : ∀ a x, p a x → q a x) : At2 q as xs := by
  induction h with
  | nil => exact .nil
  | cons h1 _ ih => exact .cons (f _ _ h1) ih
theorem At2.get (h : At2 p as xs) : ∀ {i : Nat} {x : α}, xs[i]? = some x → ∃ a, as[i]? = some a ∧ p a x := by
  induction h with
  | nil => intro i x e; simp at e
  | cons h1 _ ih =>
    intro i x e
    cases i with
    | zero =>
      simp at e
      subst e
      exact ⟨_, rfl, h1⟩
    | succ i => exact ih (by simpa using e)
theorem At2.get' (h : At2 p as xs) : ∀ {i : Nat} {a : Addr}, as[i]? = some a → ∃ x, xs[i]? = some x ∧ p a x := by
  induction h with
  | nil => intro i x e; simp at e
  | cons h1 _ ih =>
    intro i x e
    cases i with
    | zero =>
      simp at e
      subst e
      exact ⟨_, rfl, h1⟩
    | succ i => exact ih (by simpa using e)
theorem At2.app (h : At2 p as xs) (h2 : At2 p bs ys) : At2 p (as ++ bs) (xs ++ ys) := by
  induction h with
  | nil => exact h2
  | cons h1 _ ih => exact .cons h1 ih
theorem At2.snoc {a : Addr} {x : α} (h : At2 p as xs) (h1 : p a x) : At2 p (as ++ [a]) (xs ++ [x]) := h.app (.cons h1 .nil)
theorem At2.take (h : At2 p as xs) (n : Nat) : At2 p (as.take n) (xs.take n) := by
  induction h generalizing n with
  | nil => simp; exact .nil
  | cons h1 _ ih =>
    cases n with
    | zero => exact .nil
    | succ n => exact .cons h1 (ih n)
theorem At2.drop (h : At2 p as xs) (n : Nat) : At2 p (as.drop n) (xs.drop n) := by
  induction h generalizing n with
  | nil => simp; exact .nil
  | cons h1 h2 ih =>
    cases n with
    | zero => exact .cons h1 h2
    | succ n => exact ih n
theorem At2.split {ys : List α} (h : At2 p as (xs ++ ys)) : ∃ bs cs, as = bs ++ cs ∧ At2 p bs xs ∧ At2 p cs ys := by
  induction xs generalizing as with
  | nil => exact ⟨[], as, rfl, .nil, h⟩
  | cons x xs ih =>
    cases h with
    | cons h1 h2 =>
      obtain ⟨bs, cs, rfl, h3, h4⟩ := ih h2
      exact ⟨_ :: bs, cs, rfl, .cons h1 h3, h4⟩
theorem At2.dp {K : PySem.W.Frag} {H : Hp} {f : α → PyData} (h : At2 p as xs) (g : ∀ a x, p a x → Dp K H (.ref a) (f x)) : DpAll K H (as.map V.ref) (xs.map f) := by
  induction h with
  | nil => exact .nil
  | cons h1 _ ih => exact .cons (g _ _ h1) ih
theorem At2.of_zip : ∀ {as : List Addr} {xs : List α}, as.length = xs.length → (∀ (i : Nat) (a : Addr) (x : α), as[i]? = some a → xs[i]? = some x → p a x) → At2 p as xs
  | [], [], _, _ => .nil
  | a :: as, x :: xs, l, h => .cons (h 0 a x rfl rfl) (At2.of_zip (by simpa using l) fun i b y h1 h2 => h (i + 1) b y (by simpa using h1) (by simpa using h2))
  | [], _ :: _, l, _ => by simp at l
  | _ :: _, [], l, _ => by simp at l
end
theorem map_get {α β : Type} {f : α → β} {l : List α} {i : Nat} {y : β} (h : (l.map f)[i]? = some y) : ∃ x, l[i]? = some x ∧ f x = y := by
  rw [List.getElem?_map] at h
  cases z : l[i]? with
  | none => rw [z] at h; cases h
  | some x => rw [z] at h; exact ⟨x, rfl, Option.some.inj h⟩

/-! ### pairs of numbers -/
def PrAt (K : PySem.W.Frag) (H : Hp) (a : Addr) (x : Int × Int) : Prop := SqT K H a [.int x.1, .int x.2]
def prD (x : Int × Int) : PyData := .tuple [.int x.1, .int x.2]
theorem PrAt.same {K : PySem.W.Frag} {H H1 : Hp} {a : Addr} {x : Int × Int} (h : PrAt K H a x) (s : Same H H1) : PrAt K H1 a x := same_seqT s h
theorem PrAt.dp {K : PySem.W.Frag} {H : Hp} {a : Addr} {x : Int × Int} (h : PrAt K H a x) : Dp K H (.ref a) (prD x) := .tup h (.cons (.int _) (.cons (.int _) .nil))
theorem prD_rep {x : Int × Int} (h1 : x.1.natAbs < 2 ^ 398) (h2 : x.2.natAbs < 2 ^ 398) : RepOk (prD x) 1 2 := by
  refine (RepOk.tuple (k := 0) (n := 0) fun d hd => ?_).mono (Nat.le_refl _) (by show 2 * 1 ≤ 2; decide)
  have z : d = .int x.1 ∨ d = .int x.2 := by simpa using hd
  rcases z with rfl | rfl
  · exact RepOk.int h1
  · exact RepOk.int h2
theorem prs_rep {xs : List (Int × Int)} {n : Nat} (h : ∀ x ∈ xs, x.1.natAbs < 2 ^ 398 ∧ x.2.natAbs < 2 ^ 398) (l : xs.length ≤ n) : RepOk (.list (xs.map prD)) 2 (n * 3) := by
  refine (RepOk.list (k := 1) (n := 2) fun d hd => ?_).mono (Nat.le_refl _) (by rw [List.length_map]; exact Nat.mul_le_mul_right _ l)
  obtain ⟨x, hx, rfl⟩ := List.mem_map.mp hd
  exact prD_rep (h x hx).1 (h x hx).2
end RO

namespace RO
open PySem PySem.Spec PyProof.Rows L2

/-! ### sorted of a set of numbers, however many -/
section
variable {P : Program} {w : World} {A : Around} {E : Value → Shared → Prop} {s : Shared} {a : Addr}
theorem big_sorted_set {S : Int → Bool} {n : Nat} {Q : Value → Shared → Prop} (R : SetR w s.heap a S n) (hd0 : A.handled = none) (small : n ≤ 100000)
    (fin : ∀ s2 q (out : Array Value) (c : Nat) (ns : List Int), (∀ b o, s.heap.get? b = some o → s2.heap.get? b = some o) → s2.gens = s.gens → s2.os = s.os → s.heap.objs.size ≤ q →
      s2.heap.get? q = some (seqObj "list" out c) → IntsAre out.toList ns → ns.Pairwise (· < ·) → (∀ k, k ∈ ns ↔ S k = true) → ns.length = n → Q (.ref q) s2) : wpAny (model P w) A (call (.builtin "sorted") [.ref a]) Q E s := by
  obtain ⟨o, es, ep, t, ho, ex, hdat, good, nd, mem, bnd, fits, cnt, ris, left⟩ := R
  apply Calls.call_function_entry kind_sorted plain_sorted entry_sorted (args_sorted1 _)
  unfold Builtin.«sorted»
  apply wpAny_bind (m := checkCount "sorted" 1 1 _)
  apply wpAny_pure
  apply wpAny_bind
  apply collect_set (A := A.in1) hd0 ⟨o, ho, ex.1, hdat⟩ fits bnd ris left
  intro s1 vs keep1 big1 g1 os1 pm
  have lv : vs.length = n := by
    rw [pm.length_eq, List.length_map, Array.length_toList]
    exact cnt
  have isI : IntsAre vs (vs.map Builtin.Re.reRawOf) := ints_of vs fun v hv => by
    obtain ⟨e, he, q⟩ := List.mem_map.mp (pm.mem_iff.mp hv)
    obtain ⟨k, tk, h1, _⟩ := good e he
    exact ⟨k, tk, q ▸ h1⟩
  have perm0 : (vs.map Builtin.Re.reRawOf).Perm (es.toList.map keyOf) := by
    have z := pm.map Builtin.Re.reRawOf
    rwa [List.map_map] at z
  have fit : vs.length ≤ sizeLine := by
    rw [lv, sizeLine_eq]
    omega
  refine wpAny_bind (wpAny_newList ?_ fit)
  have at0 : (s1.heap.push (seqObj "list" vs.toArray 0)).get? s1.heap.objs.size = some (seqObj "list" vs.toArray 0) := Heap.get?_push_size _ rfl
  refine wpAny_bind (wpAny_holding (wpAny_call_entry slot_list_sort ⟨_, at0, rfl⟩ entry_list_sort
    (SrtO.list_sort_ord SrtO.swo_int at0 fit (fun h2 => SrtO.ints_sortable isI h2) fun out h1 h2 => ⟨_, rfl, ?_⟩) (args_list_sort _)))
  obtain ⟨k1, k2, k3⟩ := SrtO.ints_out isI h1 h2
  obtain ⟨c, hc⟩ := sortedHeap_at (vs := vs) (out := out.toArray) at0
  have perm1 : (out.map SrtO.iv).Perm (es.toList.map keyOf) := k2.trans perm0
  apply wpAny_pure
  refine ⟨_, rfl, fin _ s1.heap.objs.size out.toArray c (out.map SrtO.iv) (fun b u e => ?_) g1 os1 big1 hc k1 (lt_of_le_nodup _ k3 (perm1.nodup_iff.mpr nd)) (fun k => ?_) ?_⟩
  · have z := keep1 b u e
    have lt := Heap.lt_size z
    show (sortedHeap (s1.heap.push (seqObj "list" vs.toArray 0)) s1.heap.objs.size vs out.toArray).get? b = some u
    rw [sortedHeap_old (Nat.ne_of_lt lt) (by rw [size_push']; exact Nat.lt_succ_of_lt lt)]
    exact Heap.get?_push_of_some _ z
  · rw [perm1.mem_iff, ← mem k]
  · rw [perm1.length_eq, List.length_map, Array.length_toList]
    exact cnt
end
def rSortS (w : World) : List V → Hp → VK → Prop := fun vs H Q => ∃ (a : Addr) (S : Int → Bool) (n : Nat), vs = [V.ref a] ∧ H a = some (SetO w a S n) ∧ n ≤ 100000 ∧
  ∀ (ns : List Int) (p : Addr), ns.Pairwise (· < ·) → (∀ k : Int, k ∈ ns ↔ S k = true) → ns.length = n → H p = none → Q (.ref p) (upd H p (.lst (ns.map V.int)))
theorem k_sortS (ww : World) {X : Cx} (hc : X.calm = true) (h2 : X.w = ww := by rfl) : CallR X (.builtin "sorted") (rSortS ww) := by
  subst h2
  intro pins s σ H vs us Q I r h
  obtain ⟨a, S, n, rfl, ha, big, q⟩ := h
  rw [Vals.ref1 r]
  apply big_sorted_set (setO_get I ha) (I.ok.hd hc) big
  intro s2 p out c ns keep g os hp at1 isI asc mem len
  have fit : (ns.map V.int).length ≤ sizeLine := by
    rw [List.length_map, len, sizeLine_eq]
    omega
  have free : H p = none := I.hok.fresh hp
  have e : s2 = { s with heap := s2.heap, gens := s2.gens, drawn := s2.drawn, toks := s2.toks } := by
    cases s2
    cases s
    cases os
    rfl
  have J : Inv X pins σ (upd H p (.lst (ns.map V.int))) { s with heap := s2.heap, gens := s2.gens, drawn := s2.drawn, toks := s2.toks } :=
    I.call (ch := []) (Un.laid keep hp free) (I.hok.laid keep hp ⟨fit, out.toList, c, vals_of_ints isI, at1⟩) (g ▸ I.bare) (fun _ z => nomatch z)
  rw [e]
  exact ⟨.ref p, _, J, rfl, q ns p asc mem len free⟩
end RO

namespace RO
open PySem PySem.Spec PyProof.Rows L2

/-! ### a list, whatever it holds, unlike the empty one -/
def rNeE (K : PySem.W.Frag) : R2 := fun x y H Q => ∃ a b xs, x = .ref a ∧ y = .ref b ∧ SqL K H a xs ∧ SqL K H b [] ∧ Q (.bl (!xs.isEmpty)) H
theorem k_neE (K : PySem.W.Frag) {X : Cx} (hu : X.A.units + 64 < cLine) (h : X.K = K := by rfl) : OpR X (compareOp .NotEq) (rNeE K) := by
  subst h
  intro pins s σ H x y v u Q I rx ry h
  obtain ⟨a, b, xs, rfl, rfl, h1, h2, q⟩ := h
  cases xs with
  | nil =>
    refine k_neD (K := X.K) hu rfl pins s σ H _ _ v u Q I rx ry ⟨.list [], .list [], .lst h1 .nil, .lst h2 .nil, rfl, rfl, ?_⟩
    exact q
  | cons x xs =>
    cases rx
    cases ry
    obtain ⟨i1, r1, p1, _⟩ := I.list h1
    obtain ⟨i2, r2, p2, _⟩ := I.list h2
    cases r2
    have l1 := r1.length
    refine SeqAt.RcNeAt.lists_lengths p1.isList p2.isList ?_ (by omega) _ _ _ _ ⟨.bl true, H, I, rfl, q⟩
    rw [List.size_toArray, ← l1]
    rfl
end RO

namespace RO
open PySem PySem.Spec PyProof.Rows L2

/-! ### a comprehension over two walks, one within the other -/
section
variable {J J1 : It} {n n1 : Nat} {G G1 : Hp → Prop} {Y Y1 : Nat → Hp → V → Hp → Prop}
/-- the inner walk -/
theorem lc2_in (w : Walk J1 n1 G1 Y1) {g1 : TG} {tt1 : TT} {te : TE} {vs1 : List Nat} {σ2 : L2.St} {H4 : Hp} {D : Addr} {Nx : Hp → Prop} (Pw : Nat → Hp → Prop) (h0 : Pw 0 H4) (hG : ∀ j H, j ≤ n1 → Pw j H → G1 H)
    (hs : ∀ j x H H', j < n1 → Pw j H → Y1 j H x H' → g1 x (wipe σ2 vs1) H' fun σ3 H5 => wipe σ3 vs1 = wipe σ2 vs1 ∧ tt1 σ3 H5 fun b H6 => if b = true then te σ3 H6 fun y H7 => ∃ acc, H7 D = some (.lst acc) ∧ acc.length < sizeLine ∧ Pw (j + 1) (upd H7 D (.lst (acc ++ [y]))) else Pw (j + 1) H6)
    (hd : ∀ H, Pw n1 H → Nx H) :
    ∃ W1 : Nat → Nat → Hp → Prop, (∃ m, W1 0 m H4) ∧ ∀ j k H, W1 j k H →
      (J1.stop j H ∧ Nx H) ∨ (J1.go j H ∧ ∃ Nx1 : Hp → Prop, (∀ H', Nx1 H' → ∃ k', k' < k ∧ W1 (j + 1) k' H') ∧ ∀ x H', J1.yld j H x H' → g1 x (wipe σ2 vs1) H' fun σ3 H5 => wipe σ3 vs1 = wipe σ2 vs1 ∧ tt1 σ3 H5 fun b H6 =>
        if b = true then te σ3 H6 fun y H7 => ∃ acc, H7 D = some (.lst acc) ∧ acc.length < sizeLine ∧ Nx1 (upd H7 D (.lst (acc ++ [y]))) else Nx1 H6) := by
  refine ⟨fun j k H => k = n1 - j ∧ j ≤ n1 ∧ Pw j H, ⟨n1, by simp, Nat.zero_le _, h0⟩, ?_⟩
  rintro j k H ⟨rfl, le, p⟩
  have q := hG j H le p
  rcases Nat.lt_or_ge j n1 with lt | ge
  · exact .inr ⟨w.goes j H lt q, Pw (j + 1), fun H' p' => ⟨n1 - (j + 1), by omega, rfl, lt, p'⟩, fun x H' y => hs j x H H' lt p (w.yields j H x H' lt q y)⟩
  · obtain rfl : j = n1 := by omega
    exact .inl ⟨w.stops H q, hd H p⟩
/-- the outer walk -/
theorem lc2_it (w : Walk J n G Y) {g g1 : TG} {tt tt1 : TT} {te : TE} {wi1 : TI} {vs vs1 : List Nat} {σ : L2.St} {H1 : Hp} {D : Addr} {Qd : Hp → Prop} (Pv : Nat → Hp → Prop) (h0 : Pv 0 (upd H1 D (.lst []))) (hG : ∀ i H, i ≤ n → Pv i H → G H)
    (hs : ∀ i x H H', i < n → Pv i H → Y i H x H' → g x (wipe σ vs) H' fun σ2 H2 => wipe σ2 vs = wipe σ vs ∧ tt σ2 H2 fun b H3 =>
      if b = true then wi1 σ2 H3 fun J1 H4 => ∃ W1 : Nat → Nat → Hp → Prop, (∃ m, W1 0 m H4) ∧ ∀ j k H, W1 j k H →
        (J1.stop j H ∧ Pv (i + 1) H) ∨ (J1.go j H ∧ ∃ Nx1 : Hp → Prop, (∀ H', Nx1 H' → ∃ k', k' < k ∧ W1 (j + 1) k' H') ∧ ∀ x H', J1.yld j H x H' → g1 x (wipe σ2 vs1) H' fun σ3 H5 => wipe σ3 vs1 = wipe σ2 vs1 ∧ tt1 σ3 H5 fun b H6 =>
          if b = true then te σ3 H6 fun y H7 => ∃ acc, H7 D = some (.lst acc) ∧ acc.length < sizeLine ∧ Nx1 (upd H7 D (.lst (acc ++ [y]))) else Nx1 H6)
      else Pv (i + 1) H3) (hd : ∀ H, Pv n H → Qd H) :
    ∃ W : Nat → Nat → Hp → Prop, (∃ m, W 0 m (upd H1 D (.lst []))) ∧ ∀ i m H, W i m H →
      (J.stop i H ∧ Qd H) ∨ (J.go i H ∧ ∃ Nx : Hp → Prop, (∀ H', Nx H' → ∃ m', m' < m ∧ W (i + 1) m' H') ∧ ∀ x H', J.yld i H x H' → g x (wipe σ vs) H' fun σ2 H2 => wipe σ2 vs = wipe σ vs ∧ tt σ2 H2 fun b H3 =>
        if b = true then wi1 σ2 H3 fun J1 H4 => ∃ W1 : Nat → Nat → Hp → Prop, (∃ m, W1 0 m H4) ∧ ∀ j k H, W1 j k H →
          (J1.stop j H ∧ Nx H) ∨ (J1.go j H ∧ ∃ Nx1 : Hp → Prop, (∀ H', Nx1 H' → ∃ k', k' < k ∧ W1 (j + 1) k' H') ∧ ∀ x H', J1.yld j H x H' → g1 x (wipe σ2 vs1) H' fun σ3 H5 => wipe σ3 vs1 = wipe σ2 vs1 ∧ tt1 σ3 H5 fun b H6 =>
            if b = true then te σ3 H6 fun y H7 => ∃ acc, H7 D = some (.lst acc) ∧ acc.length < sizeLine ∧ Nx1 (upd H7 D (.lst (acc ++ [y]))) else Nx1 H6)
        else Nx H3) := by
  refine ⟨fun i m H => m = n - i ∧ i ≤ n ∧ Pv i H, ⟨n, by simp, Nat.zero_le _, h0⟩, ?_⟩
  rintro i m H ⟨rfl, le, p⟩
  have q := hG i H le p
  rcases Nat.lt_or_ge i n with lt | ge
  · exact .inr ⟨w.goes i H lt q, Pv (i + 1), fun H' p' => ⟨n - (i + 1), by omega, rfl, lt, p'⟩, fun x H' y => hs i x H H' lt p (w.yields i H x H' lt q y)⟩
  · obtain rfl : i = n := by omega
    exact .inl ⟨w.stops H q, hd H p⟩
end

/-! ### parts of a list, all from it -/
theorem strs_from {six : List Str} : ∀ {ys : List V}, (∀ y ∈ ys, y ∈ six.map V.str) → ∃ ls : List Str, ys = ls.map V.str ∧ ∀ l ∈ ls, l ∈ six
  | [], _ => ⟨[], rfl, fun _ z => nomatch z⟩
  | y :: ys, h => by
    obtain ⟨l, hl, e⟩ := List.mem_map.mp (h y (List.mem_cons_self ..))
    obtain ⟨ls, e2, h2⟩ := strs_from fun z hz => h z (List.mem_cons_of_mem _ hz)
    refine ⟨l :: ls, by rw [List.map_cons, e, ← e2], fun z hz => ?_⟩
    rcases List.mem_cons.mp hz with q | q
    · rw [q]
      exact hl
    · exact h2 z q
theorem cut_from (xs : List V) (lo hi : Option Int) : ∀ x ∈ cutV xs lo hi, x ∈ xs := fun x hx => by
  unfold cutV at hx
  exact List.mem_of_mem_drop (List.mem_of_mem_take hx)
theorem cut_one (xs : List V) (i : Nat) (h : i < xs.length) : (cutV xs (some (i : Int)) (some ((i : Int) + 1))).length = 1 := by
  unfold cutV
  rw [show ((i : Int) + 1) = ((i + 1 : Nat) : Int) by omega, HT.sIx_nat, HT.sIx_nat, List.length_take, List.length_drop]
  omega
end RO

namespace RO
open PySem PySem.Spec PyProof.Rows L2
/-! ### x in xs, of data -/
theorem k_inD (K : PySem.W.Frag) {k : Nat} {X : Cx} (hr : Room k X.A) (h : X.K = K := by rfl) : OpR X (compareOp .In) (rInD K) := by
  subst h
  exact op_inD (by have := hr.un; omega)
theorem k_min (K : PySem.W.Frag) {X : Cx} (hc : X.calm = true) (h : X.K = K := by rfl) : CallR X (.builtin "min") (rMin K) := by
  subst h
  exact cr_min hc
end RO

/-! Ringorders: an exception that is kept behind its suite; isinstance of it. -/
namespace RO
open PySem PySem.Spec PyProof.Rows L2

/-- what is known of a caught exception at a: its class, its dict -/
def ExH (cls : Value) (d : Option Addr) (a : Addr) : HO :=
  .ext fun h => ∃ (ob : Obj) (fs : Array Value), h.get? a = some ob ∧ Zc cls d ob ∧ ob.data = .fields fs
theorem exH_ok {P : Program} {w : World} {H : Hp} {h : Heap} {a : Addr} {cls : Value} {d : Option Addr} {ob : Obj} {fs : Array Value} (e : h.get? a = some ob) (z : Zc cls d ob) (q : ob.data = .fields fs) : ObjOk P w H h a (ExH cls d a) :=
  ⟨⟨ob, fs, e, z, q⟩, ⟨ob, e⟩, fun _ _ ⟨o, v, q1, q2⟩ k => ⟨o, v, k o q1, q2⟩⟩

section
variable {X : Cx} {pins : List (Addr × Obj)} {σ : L2.St} {H : Hp} {s : Shared}
/-- an object that was not there when the def began, and is not tracked, is tracked from now on -/
theorem adopt {a : Addr} {ob : Obj} {fs : Array Value} {cls : Value} {d : Option Addr} (I : Inv X pins σ H s) (there : s.heap.get? a = some ob) (z : Zc cls d ob) (fld : ob.data = .fields fs) (hn : H a = none)
    (n0 : X.s_0.heap.get? a = none) (nL : a ≠ X.env.locals) (np : ∀ p ∈ X.pn ++ pins, p.1 ≠ a) : Inv X pins σ (upd H a (ExH cls d a)) s := by
  have far : ∀ b u, X.s_0.heap.get? b = some u → b ≠ a := by
    intro b u e q
    rw [q, n0] at e
    cases e
  have off : ∀ {b : Addr} {u : HO}, H b = some u → upd H a (ExH cls d a) b = some u := by
    intro b u e
    rw [upd_ne (ne_of_none e hn)]
    exact e
  have nC : ∀ x c, X.env.cells.lookup x = some c → c ≠ a := by
    intro x c e q
    obtain ⟨v, o, h1, h2⟩ := I.cell x c e
    rw [q, there] at h1
    cases h1
    rw [fld] at h2
    cases h2
  refine ⟨I.ok, I.os, I.bare, ⟨I.base.keep, I.base.slot, ?_, I.base.there, ?_, ?_, ?_⟩, I.loc, I.cell, ?_, ?_, ?_, ?_, I.len⟩
  · intro b u e m hx
    rw [upd_ne (far b u e)]
    exact I.base.free b u e m hx
  · exact fun b xs e => off (I.base.tups b xs e)
  · exact fun b o u e => off (I.base.frzs b o u e)
  · intro b ps e
    obtain ⟨more, q⟩ := I.base.tbls b ps e
    exact ⟨more, off q⟩
  · rw [upd_ne (Ne.symm nL)]
    exact I.free
  · intro x c e
    rw [upd_ne (nC x c e)]
    exact I.freeC x c e
  · intro p hp
    obtain ⟨e1, e2, e3⟩ := I.pin p hp
    exact ⟨e1, by rw [upd_ne (np p hp)]; exact e2, e3⟩
  · intro b u e
    by_cases hb : b = a
    · subst hb
      rw [upd_same] at e
      cases e
      exact exH_ok there z fld
    · rw [upd_ne hb] at e
      exact (I.hok b u e).stay (fun _ _ _ q => q) (fun _ q => off q) fun _ _ q => off q
end

/-- what 'except c as n: suite' wishes of an exception of the body, where the exception is kept behind the suite; slot i is n's -/
def wKeep (K : PySem.W.Frag) (c : Value) (i : Nat) (ts : Addr → Value → Option Addr → TS) (Wout : WX) (D : Ends) : WX := fun cls d σ H =>
  ∃ b, PySem.W.exmOne K cls c = some b ∧
    (b = true → ∀ a, H a = none → ts a cls d
      { nx := fun σ' H' => D.nx (σ'.set i none) (upd H' a (ExH cls d a))
        rt := fun v H' => D.rt v (upd H' a (ExH cls d a))
        bk := fun σ' H' => D.bk (σ'.set i none) (upd H' a (ExH cls d a))
        ct := fun σ' H' => D.ct (σ'.set i none) (upd H' a (ExH cls d a)) } (σ.set i (some (.ref a))) H) ∧
    (b = false → Wout cls d σ H)

section
variable {X : Cx} {x n : Str} {c : Value} {i : Nat} {body suite : List Stmt} {b0 : Stmt} {np pos pos2 : Pos} {tb : WX → TS} {ts : Addr → Value → Option Addr → TS} {Wout : WX}
theorem ps_try_keep (hs : X.stack = X.env :: X.outer) (hf : X.env.frame = some X.env.locals) (hex : X.ex = []) (hN : X.N.Nodup) (hi : X.N[i]? = some n) (hln : X.env.kindOf n = some .local) (hc : Names X x c) (tk : Takes X Wout)
    (hb : ∀ (W : WX) (pn : List (Addr × Obj)) (xe : Value → Shared → Prop), Takes (X.tr pn xe) W → PassesOwn (model X.prog X.w) X.A X.env xe → PSs (X.tr pn xe) body (tb W))
    (hsu : ∀ (a : Addr) (ob : Obj) (cls : Value) (d : Option Addr) (pn : List (Addr × Obj)), Zc cls d ob → (∃ fs, ob.data = .fields fs) → PSs (X.suite a ((a, ob) :: pn)) (b0 :: suite) (ts a cls d)) :
    PS X (.Try body [.ExceptHandler (some (.Name x np)) (some n) (b0 :: suite) pos2] [] [] pos) (fun D σ H => tb (wKeep X.K c i ts Wout D) D σ H) := by
  constructor
  intro pins s σ H D I h
  have ok := I.ok
  have frames : X.A.frames = some (X.env :: X.outer) := ok.frames.trans (congrArg some hs)
  refine wpAny_Try_except ?_
  let catch_ : Value → Shared → Prop := fun e t1 => wpAny (model X.prog X.w) X.A (noteFrame e X.env)
    (fun _ t2 => wpAny (model X.prog X.w) X.A (setFlight e none)
      (fun _ t3 => wpAny (model X.prog X.w) X.A (handleBy e X.env [.ExceptHandler (some (.Name x np)) (some n) (b0 :: suite) pos2]) (SP X pins D) X.xe t3) X.xe t2) X.xe t1
  have caught : Takes (X.tr (X.pn ++ pins) catch_) (wKeep X.K c i ts Wout D) := by
    rintro u t ⟨a, B, tI, pins1, τ, G, cls, d, rfl, J1, nb, up, sky, na, os, ag, b, isB, yes, no⟩
    have J : Inv X pins τ G tI := J1.ofTry ok
    rw [show (X.tr (X.pn ++ pins) catch_).stack = X.env :: X.outer from hs] at sky
    show wpAny (model X.prog X.w) X.A (noteFrame (.ref a) X.env) _ _ _
    refine Sky.land Zc.steady frames hf sky fun h3 fl3 up3 => ?_
    have st3 := up.trans up3
    have J3 : Inv X pins τ G { t with heap := h3 } := J.landed nb fl3.1 st3 os ag
    obtain ⟨ob3, fs3, at3, z3, fd3⟩ := fl3.there
    have noFrame : a ∉ frs (X.env :: X.outer) := by
      intro hm
      obtain ⟨_, o, e, hnf⟩ := fl3.2.2.1.mem hm
      rw [at3] at e
      cases e
      exact hnf _ fd3
    have nL : a ≠ X.env.locals := by
      intro e
      exact noFrame (List.mem_filterMap.mpr ⟨X.env, List.mem_cons_self, e ▸ hf⟩)
    have nF : a ∉ X.fs := by
      intro hm
      obtain ⟨e, he, q⟩ := List.mem_filterMap.mp hm
      exact noFrame (List.mem_filterMap.mpr ⟨e, List.mem_cons_of_mem _ he, q⟩)
    -- it was not there ahead
    have newI : ∀ o, tI.heap.get? a ≠ some o := by
      intro o e
      have q := nb a o e (by rw [show (X.tr (X.pn ++ pins) catch_).stack = X.env :: X.outer from hs]; exact noFrame)
      rw [fl3.2.1] at q
      cases q
    have new0 : X.s_0.heap.get? a = none := by
      cases e : X.s_0.heap.get? a with
      | none => rfl
      | some o =>
        obtain ⟨o2, q⟩ := J.base.there a o e (by rw [hex]; exact fun z => nomatch z)
        exact (newI o2 q).elim
    have newP : ∀ p ∈ X.pn ++ pins, p.1 ≠ a := by
      intro p hp e
      have q := (J.pin p hp).1
      rw [e] at q
      exact newI _ q
    have T3 := J3.suite at3 fd3 na nL nF
    refine wpAny_handleBy_cons (codeAny_handlers_test ?_) (by intro q; cases q)
    have look : PySem.W.Looks (model X.prog X.w) h3 (typeOf (.ref a)) cls := by
      intro A' Q' E' t' k q
      refine wpAny_typeOf_ref (k _ _ at3) ?_
      rw [z3.1]
      exact q
    have match_ := PySem.W.exm_one (M := model X.prog X.w) (J3.kIn) look isB
    have named : ∀ {Q' : Value → Shared → Prop} {E' : Value → Shared → Prop}, Q' c { t with heap := h3 } → wpAny (model X.prog X.w) (X.A.mark (some (.ref a))) (eval (.Name x np) X.env) Q' E' { t with heap := h3 } := by
      intro Q' E' q
      obtain ⟨hg, hd, m | ⟨m, v, nn⟩⟩ := hc
      · exact ld_glob (X := X.suite a ((a, ob3) :: (X.pn ++ pins))) T3 hg m q hd
      · exact ld_blt (X := X.suite a ((a, ob3) :: (X.pn ++ pins))) T3 hg m v q nn hd
    refine named (match_.here ?_)
    cases b with
    | true =>
      refine codeAny_handlers_suite_as ?_
      refine HandSPX.lands_againZ fl3 fun h4 fl4 up4 => ?_
      have J4 : Inv X pins τ G { t with heap := h4 } := J.landed nb fl4.1 (st3.trans up4) os ag
      obtain ⟨ob4, fs4, at4, z4, fd4⟩ := fl4.there
      have T4 := J4.suite at4 fd4 na nL nF
      refine store_ok (X := X.suite a ((a, ob4) :: (X.pn ++ pins))) (v := .ref a) T4 hN hi (.inl hln) rfl (fun t5 T5 => ?_) (.inr hln)
      have went := (hsu a ob4 cls d (X.pn ++ pins) z4 ⟨_, fd4⟩).run [] t5 _ G _ T5 (yes rfl a na)
      refine wpAny_mono went (fun fl t6 hsp => ?_) (fun _ _ z => z.elim)
      have ends : ∀ {τ6 : L2.St} {G6 : Hp} {Q' : Shared → Prop}, Inv (X.suite a ((a, ob4) :: (X.pn ++ pins))) [] τ6 G6 t6 → (∀ t7, Inv X pins (τ6.set i none) (upd G6 a (ExH cls d a)) t7 → Q' t7) →
          wpAny (model X.prog X.w) X.A (do bindName X.env n .none; unbindBehindTheSuite X.env n pos2) (fun _ t7 => Q' t7) X.xe t6 := by
        intro τ6 G6 Q' T6 hq
        obtain ⟨p1, p2, _⟩ := T6.pin (a, ob4) (List.mem_append_left _ List.mem_cons_self)
        exact gone_ok (adopt (T6.unsuite ok) p1 z4 fd4 p2 new0 nL newP) hN hi hln hq
      cases fl with
      | next =>
        obtain ⟨_, _, T6, q6⟩ := hsp
        exact ends T6 fun _ T7 => ⟨_, _, T7, q6⟩
      | brk =>
        obtain ⟨_, _, T6, q6⟩ := hsp
        exact ends T6 fun _ T7 => ⟨_, _, T7, q6⟩
      | cont =>
        obtain ⟨_, _, T6, q6⟩ := hsp
        exact ends T6 fun _ T7 => ⟨_, _, T7, q6⟩
      | ret u =>
        obtain ⟨_, _, _, T6, r6, q6⟩ := hsp
        exact ends T6 fun _ T7 => ⟨_, _, _, T7, r6, q6⟩
    | false =>
      show wpAny _ X.A (handleBy (.ref a) X.env []) _ _ _
      refine wpAny_handleBy_nil ?_
      obtain ⟨_, _, _, ob, fs, tr, _, _, e1, _, e2, e3, _⟩ := id fl3
      unfold PySem.passOn
      refine wpAny_bind (wpAny_field e1 e2 e3 ?_)
      rw [if_neg (show ¬ ((Value.ref tr == Value.none) = true) by simp)]
      have out : wpAny (model X.prog X.w) X.A (setFlight (.ref a) X.env.frame) (fun _ t4 => wpAny (model X.prog X.w) X.A (throw (.ref a) : Sem Flow) (SP X pins D) X.xe t4) X.xe { t with heap := h3 } := by
        rw [hf]
        refine HandSPX.setFlight_upZ fl3 fun h4 held up4 => wpAny_throw (tk _ _ ?_)
        refine ⟨a, B, tI, pins, τ, G, cls, d, rfl, J, nb, st3.trans up4, .inr (.inr ?_), na, os, ag, no rfl⟩
        rw [hs]
        exact held
      first
        | exact wpAny_bind (wpAny_pure (wpAny_bind out))
        | exact wpAny_bind out
  have went := (hb (wKeep X.K c i ts Wout D) (X.pn ++ pins) catch_ caught PassesOwn.looking).run [] s σ H D (I.toTry _) h
  refine wpAny_mono went (fun fl t1 hsp => ?_) (fun e t1 he => he)
  cases fl with
  | next =>
    obtain ⟨_, _, J, q⟩ := hsp
    exact wpAny_execs_nil ⟨_, _, J.ofTry ok, q⟩
  | brk =>
    obtain ⟨_, _, J, q⟩ := hsp
    exact ⟨_, _, J.ofTry ok, q⟩
  | cont =>
    obtain ⟨_, _, J, q⟩ := hsp
    exact ⟨_, _, J.ofTry ok, q⟩
  | ret u =>
    obtain ⟨_, _, _, J, r, q⟩ := hsp
    exact ⟨_, _, _, J.ofTry ok, r, q⟩
end

/-! ### isinstance, of a kept exception too -/
/-- a value's class: of a kept exception too -/
inductive TyZ (K : PySem.W.Frag) (H : Hp) : V → Value → Prop where
  | old {x : V} {t : Value} (h : TyX K H x t) : TyZ K H x t
  | exc {a D : Addr} (e : H a = some (ExH (.ref D) none a)) (c : ExcC K D) : TyZ K H (.ref a) (.ref D)
theorem TyZ.non {K : PySem.W.Frag} {H : Hp} : TyZ K H .non (.type "NoneType") := .old (.base .non)
section
variable {X : Cx} {pins : List (Addr × Obj)} {σ : L2.St} {H : Hp} {s : Shared}
theorem kit_ofZ {x : V} {u t : Value} (I : Inv X pins σ H s) (rx : RelV x u) (ty : TyZ X.K H x t) : ∃ P : Heap → Prop, PySem.W.KitX X.K u t P ∧ P s.heap ∧ u ≠ .builtin "__main__.__loader__#opaque" := by
  cases ty with
  | old h => exact kit_of I rx h
  | @exc a D e c =>
    cases (show u = Value.ref a from rx)
    obtain ⟨⟨ob, fs, at_, z, fd⟩, _, _⟩ := I.hok a _ e
    obtain ⟨oc, od, dt, sl⟩ := ob
    obtain ⟨z1, z2⟩ := z
    dsimp only at z1 z2 fd
    subst z1 z2 fd
    exact ⟨_, PySem.W.handS_kitx_exc c.hg c.hk c.hs c.hd c.ha c.hn c.ht c.hm, ⟨at_, rfl, rfl, trivial⟩, fun z => nomatch z⟩
end
/-- isinstance(x, c) -/
def rIsiZ (K : PySem.W.Frag) : List V → Hp → VK → Prop := fun xs H Q => ∃ (x c : V) (t u : Value) (b : Bool), xs = [x, c] ∧ ClsV c u ∧ TyZ K H x t ∧ PySem.W.kitOne K t u = some b ∧ Q (.bl b) H
/-- isinstance(x, (c1, c2, ..)) -/
def rIsiTZ (K : PySem.W.Frag) : List V → Hp → VK → Prop := fun xs H Q => ∃ (x : V) (tp : Addr) (cs : List V) (t : Value) (us : List Value) (b : Bool), xs = [x, .ref tp] ∧ H tp = some (.tup cs) ∧ Paired ClsV cs us ∧ TyZ K H x t ∧ PySem.W.kitAny K t us = some b ∧ Q (.bl b) H
section
variable {X : Cx}
theorem k_isiZ (K : PySem.W.Frag) (h : X.K = K := by rfl) : CallR X (.builtin "isinstance") (rIsiZ K) := by
  subst h
  intro pins s σ H xs us Q I r h
  obtain ⟨x, c, t, u, b, rfl, k, ty, e, q⟩ := h
  obtain ⟨u1, u2, rfl, r1, r2⟩ := vals2 r
  cases k.eq r2
  obtain ⟨_, Z, p, hx⟩ := kit_ofZ I r1 ty
  exact PySem.W.kia_one Z I.kIn p e hx fun tk => ⟨.bl b, H, I.tok tk, rfl, q⟩
theorem k_isiTZ (K : PySem.W.Frag) (h : X.K = K := by rfl) : CallR X (.builtin "isinstance") (rIsiTZ K) := by
  subst h
  intro pins s σ H xs us Q I r h
  obtain ⟨x, tp, cs, t, ws, b, rfl, hT, k, ty, e, q⟩ := h
  obtain ⟨u1, u2, rfl, r1, r2⟩ := vals2 r
  obtain rfl : u2 = Value.ref tp := r2
  obtain ⟨_, Z, p, hx⟩ := kit_ofZ I r1 ty
  obtain ⟨_, its, rv, o, h1, h2, m, h3⟩ := (show ObjOk X.prog X.w H s.heap tp (.tup cs) from I.hok tp _ hT)
  obtain rfl := ClsV.all k rv
  obtain ⟨oc, od, dt, sl⟩ := o
  dsimp only at h2 h3
  subst h2 h3
  exact PySem.W.kia_tup Z I.kIn p h1 e hx fun tk => ⟨.bl b, H, I.tok tk, rfl, q⟩
end

/-! ### calls of defs that may raise, within a try -/
section
variable {X : Cx} {CX : CXT} {k : Nat} {f : Addr} {fd : FuncData} {ps : List Str} {sp : Sp} {dvs : List V} {ds : List Value} {E : L2.St → XK} {x : Str} {p pos : Pos} {e : Expr} {es : List Expr} {t : TA}
/-- what a call of such a def asks -/
def tCallSD (sp : Sp) (dvs : List V) (E : L2.St → XK) (t : TA) : TE := fun σ H Q => t σ H fun vs H1 => sp (vs ++ dvs) H1 Q (E σ)
theorem pe_callSD (F : FnOk X.prog X.w X.K X.mg X.base CX k f fd ps sp) (hr : Room k X.A) (hg : Gl X x) (hm : X.mg x = some (.ref f)) (hk : PySem.W.keepIn X.K (.ref f) = true) (hb : Binds X.K fd ps ds) (hd : Vals dvs ds) (hx : ∀ σ, PassesAt CX X σ (E σ))
    (ha : PA X (e :: es) t) (hdb : (x == ("__debug__" : Str)) = false := by decide) (he : starEach (e :: es) X.env = (false, eval e X.env) :: starEach es X.env := by rfl)
    (hpl : (backTo pos (starEach es X.env)).any (·.1) = false := by rfl) : PE X (.Call (.Name x p) (e :: es) [] pos) (tCallSD sp dvs E t) := by
  constructor
  intro pins s σ H Q I h
  apply wpAny_Call_Name_kw
  apply ld_glob I hg hm _ hdb
  apply PySem.W.callWith_K (h₀ := X.base) I.ok.mod.kin hk _ he hpl
  apply thn (ha.run pos pins s σ H _ I h)
  rintro us s1 ⟨vs, H1, I1, r, q⟩
  refine ⟨I1.kIn, ?_⟩
  have r2 : Vals (vs ++ dvs) (us ++ ds) := r.append hd
  have many : (us ++ ds).length = ps.length := r2.length.symm.trans (F.len _ _ _ _ q)
  have ran := F.run X.A X.stack s1 H1 ⟨us, []⟩ (us ++ ds) (vs ++ dvs) Q (E σ) hr I1.env0 (hb s1 us I1.kIn many) r2 q
  show wpAny _ _ (call (.ref f) us) _ _ s1
  refine wpAny_call (codeAny_mono ran fun r s' hq => ?_)
  match r, hq with
  | .error e, hq => exact hx σ pins H1 s1 e s' I1 hq
  | .ok (.ret u), hq => exact I1.after hq
end
end RO

/-! Ringorders: lists of pairs, sorted, by themselves or by (b, -r). -/
namespace RO
open PySem PySem.Spec PyProof.Rows L2

/-- a pair with where it stands -/
abbrev Pe := Addr × (Int × Int)
def pv_ (e : Pe) : V := .ref e.1
/-- all stand where they should -/
def PeAt (K : PySem.W.Frag) (H : Hp) (es : List Pe) : Prop := ∀ e ∈ es, PrAt K H e.1 e.2
def byPr (es : List Pe) : List Pe := es.mergeSort fun p q => decide (p.2.1 < q.2.1 ∨ (p.2.1 = q.2.1 ∧ p.2.2 ≤ q.2.2))
/-- the first number upwards, the second one downwards -/
def byKey (es : List Pe) : List Pe := es.mergeSort fun p q => decide (p.2.1 < q.2.1 ∨ (p.2.1 = q.2.1 ∧ -p.2.2 ≤ -q.2.2))
theorem pe_each {R : Value → Pe → Prop} (hR : ∀ v b, R v b → v = .ref b.1) : ∀ {out : List Value} {bs : List Pe}, PySem.W.EachIs R out bs → Vals (bs.map pv_) out
  | _, _, .nil => .nil
  | _, _, .cons r h => .cons (hR _ _ r) (pe_each hR h)
theorem each_pe {R : Value → Pe → Prop} : ∀ {bs : List Pe} {vs : List Value}, Vals (bs.map pv_) vs → (∀ b ∈ bs, R (.ref b.1) b) → PySem.W.EachIs R vs bs
  | [], _, h, _ => by
    cases h
    exact .nil
  | b :: bs, _, h, g => by
    cases h with
    | cons h1 h2 =>
      obtain rfl := h1
      exact .cons (g b (List.mem_cons_self ..)) (each_pe h2 fun y hy => g y (List.mem_cons_of_mem _ hy))
theorem pr_alike (x y : Int × Int) : PySem.W.alike (prD x) (prD y) = true := by
  unfold prD
  rfl
/-! ### sorted(pairs) -/
def rSortPr (K : PySem.W.Frag) : List V → Hp → VK → Prop := fun vs H Q => ∃ (a : Addr) (es : List Pe), vs = [.ref a] ∧ SqL K H a (es.map pv_) ∧ PeAt K H es ∧ ∀ p, H p = none → Q (.ref p) (upd H p (.lst ((byPr es).map pv_)))
theorem k_sortPr (K : PySem.W.Frag) {k : Nat} {X : Cx} (hr : Room k X.A) (h : X.K = K := by rfl) : CallR X (.builtin "sorted") (rSortPr K) := by
  subst h
  intro pins s σ H vs us Q I r h
  obtain ⟨a, es, rfl, hL, hT, q⟩ := h
  rw [Vals.ref1 r]
  obtain ⟨its, rv, hl, hz⟩ := I.list hL
  have big : es.length ≤ sizeLine := by
    rw [List.length_map] at hz
    exact hz
  have un := hr.un
  have ee := each_pe (R := fun v b => v = .ref b.1) rv fun b hb => rfl
  have er := each_pe (R := fun v b => ∃ as, Reads s.heap v (prD b.2) as) rv fun b hb => Dp.reads I _ _ _ (hT b hb).dp rfl
  refine PySem.W.sorted_data (enc := fun b : Pe => prD b.2) hl.isList ee er (PySem.W.AllAlike.of fun b c => pr_alike b.2 c.2) (PySem.W.Sortable.tuples fun b => ⟨_, _, rfl⟩) big (fun b _ => ?_) fun out ll eo => ?_
  · show X.A.units + 2 + 1 < cLine
    omega
  · have eo2 : PySem.W.EachIs (fun v (b : Pe) => v = .ref b.1) out (byPr es) := by
      have z := PySem.W.dataLe_ii (fun b : Pe => b.2.1) (fun b => b.2.2)
      unfold byPr
      rw [← z]
      exact eo
    obtain ⟨c, hc⟩ := PyProof.Rows.sortedAll_at s.heap its out.toArray
    refine ⟨.ref (s.heap.objs.size + 1), _, I.laid (t' := s.toks) (o := .lst ((byPr es).map pv_)) (fun b o e => PyProof.Rows.sortedAll_old e) (Nat.le_succ _) ?_, rfl, q _ (I.hok.fresh (Nat.le_succ _))⟩
    refine ⟨?_, out, c, pe_each (fun _ _ z => z) eo2, hc⟩
    rw [List.length_map]
    unfold byPr
    rw [List.length_mergeSort]
    exact big

/-! ### sorted(pairs, key=lambda x: (x[0], -x[1])) -/
section
variable {prog : Program} {w : World} {A : Around} {s : Shared}
/-- a part of a tuple that stands in a name -/
theorem name_part {env : Env} {x : Str} {t : Addr} {h1 : Heap} {tk i : Nat} {its : List Value} {v : Value} {p1 p2 p3 : Pos} {j : Nat} {Q : Value → Shared → Prop} (kind : env.scope.kind = .function) (hx : env.kindOf x = some .local)
    (hn : ∃ m, h1.Ns env.locals m ∧ m x = some (.ref t)) (hT : IsTup h1 t its.toArray) (h0 : its[i]? = some v) (raw : ∃ k u, v = .int k u) (hi : i ≤ 8) (hd : (x == ("__debug__" : Str)) = false) (q : ∀ tk2, Q v { s with heap := h1, toks := tk2 }) :
    wpAny (model prog w) A (eval (.Subscript (.Name x p1) (.Constant (.int (i : Int)) j p2) p3) env) Q (fun _ _ => False) { s with heap := h1, toks := tk } := by
  obtain ⟨m, hn, hm⟩ := hn
  obtain ⟨k, u, rfl⟩ := raw
  refine Subscript_ (wpAny_Name (wpAny_loadName_local kind hx hn hm ?_) hd)
  refine wpAny_Constant_int ?_
  have hlen : i < its.length := by
    rcases Nat.lt_or_ge i its.length with z | z
    · exact z
    · rw [List.getElem?_eq_none (by omega)] at h0
      cases h0
  have big : (i : Int) < 2 ^ 63 := by omega
  have low : -(2 ^ 63) ≤ (i : Int) := by omega
  refine subscriptTail_builtinR (x := .int k u) hT.typeIs slot_tuple_getitem.lookup (getItem_tuple (j := i) hT low big ?_ (by simpa using h0) ⟨rfl, ?_⟩) rfl
  · unfold seqIndex?
    have h3 : ¬ ((i : Int) < 0) := by omega
    simp [h3, hlen]
  · exact q _
/-- the key (x[0], -x[1]) -/
theorem key_pair {env : Env} {x : Str} {L t : Addr} {h1 : Heap} {tk : Nat} {its : List Value} {a b : Int} {u1 u2 : Tok} {p1 p2 p3 p4 p5 p6 p7 pos : Pos} {j j2 jj : Nat} (kind : env.scope.kind = .function) (hx : env.kindOf x = some .local) (hL : env.locals = L)
    (hn : h1.Ns L fun y => ([(x, (Value.ref t))] : List (Str × Value)).reverse.lookup y) (hT : IsTup h1 t its.toArray) (h0 : its[0]? = some (.int a u1)) (h2 : its[1]? = some (.int b u2)) (hd : (x == ("__debug__" : Str)) = false) :
    wpAny (model prog w) A (eval (.Tuple [.Subscript (.Name x p1) (.Constant (.int 0) j p2) p3, .UnaryOp .USub (.Subscript (.Name x p4) (.Constant (.int 1) j2 p5) p6) p7] jj pos) env) (PySem.W.KeyPure (.tuple [.int a, .int (-b)]) { s with heap := h1, toks := tk }) (fun _ _ => False) { s with heap := h1, toks := tk } := by
  have hm : ([(x, (Value.ref t))] : List (Str × Value)).reverse.lookup x = some (.ref t) := by
    show List.lookup x [(x, Value.ref t)] = _
    simp [List.lookup]
  subst hL
  refine wpAny_Tuple_spliced ?_
  show wpAny _ _ (spliced ((false, eval (.Subscript (.Name x p1) (.Constant (.int 0) j p2) p3) env) :: backTo pos (starEach [.UnaryOp .USub (.Subscript (.Name x p4) (.Constant (.int 1) j2 p5) p6) p7] env))) _ _ _
  refine Calls.spliced_cons (name_part (i := 0) kind hx ⟨_, hn, hm⟩ hT h0 ⟨_, _, rfl⟩ (by decide) hd fun tk2 => ?_)
  show wpAny _ _ (spliced ((false, eval (.UnaryOp .USub (.Subscript (.Name x p4) (.Constant (.int 1) j2 p5) p6) p7) env) :: backTo pos (starEach [] env))) _ _ _
  refine Calls.spliced_cons (UnaryOp_ (name_part (i := 1) kind hx ⟨_, hn, hm⟩ hT h2 ⟨_, _, rfl⟩ (by decide) hd fun tk3 => neg_int ?_))
  refine Calls.spliced_nil ⟨(by show 2 ≤ sizeLine; decide), ?_⟩
  refine ⟨_, _, rfl, fun b o e => Heap.get?_push_of_some _ e, ?_⟩
  exact .tuple (as := []) (Heap.get?_push_size _ rfl) rfl rfl (.cons (.int _ _) (.cons (.int _ _) .nil))
end
open LamX
def tSortP (K : PySem.W.Frag) (T : List (Addr × Str)) (te : TE) : TE := fun σ H Q => te σ H fun v H1 => ∃ (a : Addr) (bs : List Pe), v = .ref a ∧ SqL K H1 a (bs.map pv_) ∧ PeAt K H1 bs ∧ Tabs T H1 ∧
  ∀ H2, ExtN H1 H2 → Tabs T H2 → ∀ l, H2 l = none → Q (.ref l) (upd H2 l (.lst ((byKey bs).map pv_)))
section
variable {X : Cx}
theorem pe_sortP (K : PySem.W.Frag) {T : List (Addr × Str)} {c P : Addr} {e : Expr} {te : TE} {params : Arguments} {scope : Scope} {x : Str} {k j j2 jj : Nat} {p p1 p2 p3 p4 p5 p6 p7 p8 lpos kpos pos : Pos}
    (hg : Gl X "sorted") (hm : X.mg "sorted" = none) (TB : TabB X.base X.mg c P) (hcode : X.env.code = .ref c) (hT : (P, X.env.qual ++ "<lambda>") ∈ T) (hu : ∀ q ∈ T, q.1 = P → q.2 = X.env.qual ++ "<lambda>") (hr : Room (k + 2) X.A) (he : PE X e te) (hK : X.K = K := by rfl) (hs : starEach [e] X.env = (false, eval e X.env) :: starEach [] X.env := by rfl)
    (hdef : defaultsOf params X.env = ([], []) := by rfl) (kind : scope.kind = .function := by rfl) (co : scope.isCoroutine = false := by rfl) (gen : scope.isGenerator = false := by rfl)
    (nocell : ∀ y ∈ scope.names, y.2 ≠ .cell := by decide) (nofree : ∀ y ∈ scope.names, y.2 ≠ .free := by decide) (hx : scope.names.lookup x = some .local := by rfl) (hd : (x == ("__debug__" : Str)) = false := by decide)
    (hb : ∀ (q : Str) (cl : List (Str × Addr)) (pm cv ctv v : Value), bindArgs (PySem.W.kla_fn "<lambda>" q params (.Tuple [.Subscript (.Name x p1) (.Constant (.int 0) j p2) p3, .UnaryOp .USub (.Subscript (.Name x p4) (.Constant (.int 1) j2 p5) p6) p7] jj p8) scope cl pm cv ctv) ⟨[v], []⟩ = pure [(x, v)] := by intros; rfl) :
    PE X (.Call (.Name "sorted" p) [e] [⟨some "key", .Lambda params (.Tuple [.Subscript (.Name x p1) (.Constant (.int 0) j p2) p3, .UnaryOp .USub (.Subscript (.Name x p4) (.Constant (.int 1) j2 p5) p6) p7] jj p8) scope lpos, kpos⟩] pos) (tSortP K T te) := by
  subst hK
  refine ⟨fun pins s σ H Q I h => ?_⟩
  refine wpAny_Call_Name_kw (ld_blt I hg hm rfl ?_)
  refine PyProof.Rows.callWith_kw (thn ((pa_cons he pa_nil hs).run pos pins s σ H (fun vs H1 => match vs with
    | [v] => ∃ (a : Addr) (bs : List Pe), v = .ref a ∧ SqL X.K H1 a (bs.map pv_) ∧ PeAt X.K H1 bs ∧ Tabs T H1 ∧ ∀ H2, ExtN H1 H2 → Tabs T H2 → ∀ l, H2 l = none → Q (.ref l) (upd H2 l (.lst ((byKey bs).map pv_)))
    | _ => False) I h) fun us s1 q1 => ?_) (by rw [hs]; rfl) (by rw [hs]; rfl) rfl rfl
  obtain ⟨vs, H1, I1, r1, q1⟩ := q1
  match vs, r1, q1 with
  | [v], r1, ⟨a, bs, ev, hL, hTs, tabs, q⟩ =>
    subst ev
    rw [Vals.ref1 r1]
    show wpAny _ _ (evalAll [(do let v ← eval (.Lambda params (.Tuple [.Subscript (.Name x p1) (.Constant (.int 0) j p2) p3, .UnaryOp .USub (.Subscript (.Name x p4) (.Constant (.int 1) j2 p5) p6) p7] jj p8) scope lpos) X.env; standAt pos; pure v)]) _ _ s1
    refine wpAny_evalAll_cons (wpAny_bind (lam_make2 I1 TB hcode hT hu tabs hdef (fun y hy z => (nofree y hy z).elim) fun f c' pm ctv H2 s2 I2 ext tabs2 hf hfn hfr hc => wpAny_bind (wpAny_standAt (wpAny_pure (wpAny_evalAll_nil ?_)))))
    show wpAny _ _ (call (.builtin "sorted") [.ref a] [(Str.ofString "key", .ref f)]) _ _ s2
    -- the list, the tuples in it
    have hL2 : SqL X.K H2 a (bs.map pv_) := by
      rcases hL with (z | ⟨o, z⟩) | z
      · exact .inl (.inl (ext _ _ z (fun ps => nofun)))
      · exact .inl (.inr ⟨o, ext _ _ z (fun ps => nofun)⟩)
      · exact .inr z
    have hT2 : ∀ b ∈ bs, ∃ (its : List Value) (u1 u2 : Tok), IsTup s2.heap b.1 its.toArray ∧ its[0]? = some (.int b.2.1 u1) ∧ its[1]? = some (.int b.2.2 u2) := fun b hb => by
      have z := hTs b hb
      have z2 : SqT X.K H2 b.1 [.int b.2.1, .int b.2.2] := by
        rcases z with (z | ⟨o, z⟩) | z
        · exact .inl (.inl (ext _ _ z (fun ps => nofun)))
        · exact .inl (.inr ⟨o, ext _ _ z (fun ps => nofun)⟩)
        · exact .inr z
      obtain ⟨its, r, ht, _⟩ := I2.tuple z2
      cases r with
      | cons r0 r1 =>
        cases r1 with
        | cons r1 _ =>
          obtain ⟨u1, rfl⟩ := r0
          obtain ⟨u2, rfl⟩ := r1
          exact ⟨_, u1, u2, ht, rfl, rfl⟩
    obtain ⟨its, r, hl, hz⟩ := I2.list hL2
    have len : its.length = bs.length := by
      have := r.length
      rw [List.length_map] at this
      omega
    have hz2 : bs.length ≤ sizeLine := by
      rw [List.length_map] at hz
      exact hz
    have ee := each_pe (R := fun v b => v = .ref b.1 ∧ b ∈ bs) r fun b hb => ⟨rfl, hb⟩
    have un := hr.un
    have dp := hr.dp
    refine PySem.W.sorted_key_data (b := false) (fun b : Pe => .tuple [.int b.2.1, .int (-b.2.2)]) hl.isList ee (PySem.W.AllAlike.of fun _ _ => rfl) (PySem.W.Sortable.tuples fun b => ⟨_, _, rfl⟩) hz2 (fun b _ => ?_) (PyProof.Rows.ksk_s1 _ _) (fun _ => PyProof.Rows.ksk_l1 _ _) (fun _ => PyProof.Rows.ksk_t1 _ _)
      (fun v b hv hb2 h tk kp => ?_) fun out cc h' tk kp fr hD ll eo => ?_
    · show X.A.units + 2 + 1 < cLine
      omega
    · obtain ⟨rfl, _⟩ := hv
      obtain ⟨it, u1, u2, ht, h0, h2⟩ := hT2 b hb2
      obtain ⟨oc, vs', t, hoc, hdc, hvc⟩ := (I2.hok c' _ hc).1
      have K1 : ∀ b o, X.base.get? b = some o → h.get? b = some o := fun b o z => kp b o (I2.bk b o z)
      refine key_call (s := { s2 with heap := h, toks := tk }) (x := x) (by show X.A.depth < _; omega) (I2.ok.mod.nolimit.keeps K1) (kp _ _ hf) ⟨c', oc, vs', t, rfl, kp _ _ hoc, hdc, hvc⟩ kind co gen nocell hx (hb _ _ _ _ _ _) fun L h1 tk2 kp2 hn => ?_
      exact key_pair (s := { s2 with heap := h, toks := tk }) kind hx rfl hn (ht.keeps fun b o z => kp2 b o (kp b o z)) h0 h2 hd
    · have eo2 : PySem.W.EachIs (fun v (b : Pe) => v = .ref b.1 ∧ b ∈ bs) out (byKey bs) := by
        have z := PySem.W.dataLe_ii (fun b : Pe => b.2.1) (fun b => -b.2.2)
        unfold byKey
        rw [← z]
        exact eo
      refine ⟨.ref (s2.heap.objs.size + 1), _, I2.laid (t' := tk) (o := .lst ((byKey bs).map pv_)) kp (Nat.le_succ _) ?_, rfl, q H2 ext tabs2 _ (I2.hok.fresh (Nat.le_succ _))⟩
      refine ⟨?_, out, cc, pe_each (fun _ _ z => z.1) eo2, hD⟩
      rw [List.length_map]
      unfold byKey
      rw [List.length_mergeSort]
      exact hz2
  | [], _, q => exact q.elim
  | _ :: _ :: _, _, q => exact q.elim
end
end RO

/-! Ringorders: crowds of pairs of one line, level by level; a chain through them. Plain mathematics. -/
namespace RO

section
variable {α β : Type}
def zLe (p q : Int × Int) : Bool := decide (p.1 < q.1 ∨ (p.1 = q.1 ∧ p.2 ≤ q.2))
def kLe (p q : Int × Int) : Bool := decide (p.1 < q.1 ∨ (p.1 = q.1 ∧ -p.2 ≤ -q.2))
def leadsB (x y : Int × Int) : Bool := decide (x.1 < y.1) && decide (x.2 < y.2)
theorem leads_iff {x y : Int × Int} : leadsB x y = true ↔ x.1 < y.1 ∧ x.2 < y.2 := by
  unfold leadsB
  rw [Bool.and_eq_true, decide_eq_true_eq, decide_eq_true_eq]
/-- how many of the lowest ones, from the first on, are less than r -/
def lvAt : List Int → Int → Nat
  | [], _ => 0
  | l :: ls, r => if l < r then lvAt ls r + 1 else 0
theorem lvAt_le : ∀ (ls : List Int) (r : Int), lvAt ls r ≤ ls.length
  | [], _ => Nat.le_refl _
  | l :: ls, r => by
    unfold lvAt
    split
    · have := lvAt_le ls r
      simp only [List.length_cons]
      omega
    · exact Nat.zero_le _
theorem lvAt_lt : ∀ {ls : List Int} {r : Int} {j : Nat} {v : Int}, j < lvAt ls r → ls[j]? = some v → v < r
  | [], _, _, _, h, _ => absurd h (Nat.not_lt_zero _)
  | l :: ls, r, j, v, h, e => by
    unfold lvAt at h
    split at h
    · rename_i c
      rcases j with _ | j
      · cases e
        exact c
      · exact lvAt_lt (Nat.lt_of_succ_lt_succ h) (by simpa using e)
    · exact absurd h (Nat.not_lt_zero _)
theorem lvAt_at : ∀ {ls : List Int} {r : Int} {v : Int}, ls[lvAt ls r]? = some v → r ≤ v
  | [], _, _, e => by cases e
  | l :: ls, r, v, e => by
    unfold lvAt at e
    split at e
    · exact lvAt_at (by simpa using e)
    · rename_i c
      have : l = v := by simpa using e
      omega
def putLv (z : α → Int × Int) (st : List (List α) × List Int) (e : α) : List (List α) × List Int :=
  if lvAt st.2 (z e).2 = st.1.length then (st.1 ++ [[e]], st.2 ++ [(z e).2])
  else (st.1.set (lvAt st.2 (z e).2) ((st.1[lvAt st.2 (z e).2]?.getD []) ++ [e]), st.2.set (lvAt st.2 (z e).2) (z e).2)
structure LvOk (z : α → Int × Int) (done : List α) (st : List (List α) × List Int) : Prop where
  len : st.1.length = st.2.length
  perm : st.1.flatten.Perm done
  low : ∀ (i : Nat) (l : List α) (r : Int), st.1[i]? = some l → st.2[i]? = some r → (∀ e ∈ l, r ≤ (z e).2) ∧ ∃ e ∈ l, (z e).2 = r
  apart : ∀ l ∈ st.1, l.Pairwise fun e f => (z e).1 ≤ (z f).1 ∧ (z f).2 ≤ (z e).2
  lead : ∀ (i : Nat) (l m : List α), st.1[i]? = some l → st.1[i + 1]? = some m → ∀ f ∈ m, ∃ e ∈ l, leadsB (z e) (z f) = true
theorem LvOk.nil (z : α → Int × Int) : LvOk z [] ([], []) := ⟨rfl, .nil, fun _ _ _ h => by simp at h, fun _ h => by simp at h, fun _ _ _ h => by simp at h⟩
theorem flat_set {L : List (List α)} {k : Nat} {l : List α} {e : α} (h : L[k]? = some l) : (L.set k (l ++ [e])).flatten.Perm (L.flatten ++ [e]) := by
  induction L generalizing k with
  | nil => simp at h
  | cons x L ih =>
    rcases k with _ | k
    · have : x = l := by simpa using h
      subst this
      show ((x ++ [e]) ++ L.flatten).Perm ((x ++ L.flatten) ++ [e])
      rw [List.append_assoc, List.append_assoc]
      exact (List.perm_append_comm (l₁ := [e]) (l₂ := L.flatten)).append_left x
    · show (x ++ (L.set k (l ++ [e])).flatten).Perm ((x ++ L.flatten) ++ [e])
      rw [List.append_assoc]
      exact (ih (by simpa using h)).append_left x
theorem LvOk.put {z : α → Int × Int} {done : List α} {st : List (List α) × List Int} {e : α} (h : LvOk z done st) (ord : ∀ d ∈ done, kLe (z d) (z e) = true) : LvOk z (done ++ [e]) (putLv z st e) := by
  obtain ⟨Ls, lows⟩ := st
  have hl : Ls.length = lows.length := h.len
  have k0 := lvAt_le lows (z e).2
  have isDone : ∀ l ∈ Ls, ∀ f ∈ l, kLe (z f) (z e) = true := fun l hl f hf => ord f (h.perm.mem_iff.mp (List.mem_flatten.mpr ⟨l, hl, hf⟩))
  -- what leads the new one
  have leader : ∀ (j : Nat) (l : List α), j < lvAt lows (z e).2 → Ls[j]? = some l → ∃ g ∈ l, leadsB (z g) (z e) = true := by
    intro j l hj hl'
    have hlt : j < lows.length := by omega
    have hv : lows[j]? = some lows[j] := List.getElem?_eq_getElem hlt
    obtain ⟨_, g, hg, eg⟩ := h.low j l _ hl' hv
    have lt := lvAt_lt hj hv
    refine ⟨g, hg, leads_iff.mpr ?_⟩
    have q := isDone l (List.mem_of_getElem? hl') g hg
    unfold kLe at q
    rw [decide_eq_true_eq] at q
    omega
  unfold putLv
  dsimp only
  split
  · rename_i ek
    refine ⟨by simp [hl], ?_, ?_, ?_, ?_⟩
    · show (Ls ++ [[e]]).flatten.Perm (done ++ [e])
      rw [List.flatten_append]
      simpa using h.perm.append_right [e]
    · intro i l r h1 h2
      rcases Nat.lt_or_ge i Ls.length with c | c
      · have h1 : Ls[i]? = some l := by rw [← h1]; exact (List.getElem?_append_left c).symm
        have h2 : lows[i]? = some r := by rw [← h2]; exact (List.getElem?_append_left (by omega)).symm
        exact h.low i l r h1 h2
      · have h1 : (Ls ++ [[e]])[i]? = some l := h1
        have h2 : (lows ++ [(z e).2])[i]? = some r := h2
        rw [List.getElem?_append_right c] at h1
        rw [List.getElem?_append_right (by omega)] at h2
        have i0 : i - Ls.length = 0 := by
          rcases Nat.eq_zero_or_pos (i - Ls.length) with q | q
          · exact q
          · rw [List.getElem?_eq_none (by simp; omega)] at h1
            cases h1
        rw [i0] at h1
        rw [show i - lows.length = 0 by omega] at h2
        have : [e] = l := by simpa using h1
        subst this
        have : (z e).2 = r := by simpa using h2
        subst this
        exact ⟨fun f hf => by rw [List.mem_singleton.mp hf]; exact Int.le_refl _, e, List.mem_singleton.mpr rfl, rfl⟩
    · intro l hm
      have hm : l ∈ Ls ++ [[e]] := hm
      rcases List.mem_append.mp hm with q | q
      · exact h.apart l q
      · rw [List.mem_singleton.mp q]
        exact List.pairwise_singleton ..
    · intro i l m h1 h2 f hf
      have h1 : (Ls ++ [[e]])[i]? = some l := h1
      have h2 : (Ls ++ [[e]])[i + 1]? = some m := h2
      rcases Nat.lt_or_ge (i + 1) Ls.length with c | c
      · rw [List.getElem?_append_left (by omega)] at h1
        rw [List.getElem?_append_left c] at h2
        exact h.lead i l m h1 h2 f hf
      · rw [List.getElem?_append_right c] at h2
        have i0 : i + 1 - Ls.length = 0 := by
          rcases Nat.eq_zero_or_pos (i + 1 - Ls.length) with q | q
          · exact q
          · rw [List.getElem?_eq_none (by simp; omega)] at h2
            cases h2
        rw [i0] at h2
        have : [e] = m := by simpa using h2
        subst this
        rw [List.mem_singleton.mp hf]
        rw [List.getElem?_append_left (by omega)] at h1
        exact leader i l (by omega) h1
  · rename_i ek
    have kl : lvAt lows (z e).2 < Ls.length := by omega
    generalize hk : lvAt lows (z e).2 = k at *
    have hL : Ls[k]? = some Ls[k] := List.getElem?_eq_getElem kl
    rw [hL]
    show LvOk z (done ++ [e]) (Ls.set k (Ls[k] ++ [e]), lows.set k (z e).2)
    have hv : lows[k]? = some lows[k] := List.getElem?_eq_getElem (by omega)
    obtain ⟨lowk, _⟩ := h.low k _ _ hL hv
    have rle : (z e).2 ≤ lows[k] := lvAt_at (by rw [hk]; exact hv)
    refine ⟨by simp [hl], (flat_set hL).trans (h.perm.append_right [e]), ?_, ?_, ?_⟩
    · intro i l r h1 h2
      have h1 : (Ls.set k (Ls[k] ++ [e]))[i]? = some l := h1
      have h2 : (lows.set k (z e).2)[i]? = some r := h2
      by_cases c : k = i
      · subst c
        rw [List.getElem?_set_self kl] at h1
        rw [List.getElem?_set_self (by omega)] at h2
        cases h1
        cases h2
        refine ⟨fun f hf => ?_, e, List.mem_append_right _ (List.mem_singleton.mpr rfl), rfl⟩
        rcases List.mem_append.mp hf with q | q
        · exact Int.le_trans rle (lowk f q)
        · rw [List.mem_singleton.mp q]
          exact Int.le_refl _
      · rw [List.getElem?_set_ne c] at h1 h2
        exact h.low i l r h1 h2
    · intro l hm
      have hm : l ∈ Ls.set k (Ls[k] ++ [e]) := hm
      rcases List.mem_or_eq_of_mem_set hm with q | q
      · exact h.apart l q
      · subst q
        refine List.pairwise_append.mpr ⟨h.apart _ (List.mem_of_getElem? hL), List.pairwise_singleton .., fun f hf g hg => ?_⟩
        rw [List.mem_singleton.mp hg]
        have q := isDone _ (List.mem_of_getElem? hL) f hf
        unfold kLe at q
        rw [decide_eq_true_eq] at q
        have := lowk f hf
        omega
    · intro i l m h1 h2 f hf
      have h1 : (Ls.set k (Ls[k] ++ [e]))[i]? = some l := h1
      have h2 : (Ls.set k (Ls[k] ++ [e]))[i + 1]? = some m := h2
      -- the level below has at least what it had
      have below : ∀ l0, Ls[i]? = some l0 → ∀ g ∈ l0, g ∈ l := by
        intro l0 e0 g hg
        by_cases c : k = i
        · subst c
          rw [List.getElem?_set_self kl] at h1
          cases h1
          rw [hL] at e0
          cases e0
          exact List.mem_append_left _ hg
        · rw [List.getElem?_set_ne c] at h1
          rw [h1] at e0
          cases e0
          exact hg
      have hi : i < Ls.length := by
        have := (List.getElem?_eq_some_iff.mp h1).1
        simpa using this
      have e0 : Ls[i]? = some Ls[i] := List.getElem?_eq_getElem hi
      by_cases c : k = i + 1
      · subst c
        rw [List.getElem?_set_self kl] at h2
        cases h2
        rcases List.mem_append.mp hf with q | q
        · obtain ⟨g, hg, lg⟩ := h.lead i _ _ e0 hL f q
          exact ⟨g, below _ e0 g hg, lg⟩
        · rw [List.mem_singleton.mp q]
          obtain ⟨g, hg, lg⟩ := leader i _ (by omega) e0
          exact ⟨g, below _ e0 g hg, lg⟩
      · rw [List.getElem?_set_ne c] at h2
        obtain ⟨g, hg, lg⟩ := h.lead i _ _ e0 h2 f hf
        exact ⟨g, below _ e0 g hg, lg⟩
theorem LvOk.fold {z : α → Int × Int} : ∀ (es done : List α) (st : List (List α) × List Int), LvOk z done st → (done ++ es).Pairwise (fun d e => kLe (z d) (z e) = true) → LvOk z (done ++ es) (es.foldl (putLv z) st)
  | [], done, st, h, _ => by simpa using h
  | e :: es, done, st, h, s => by
    have q := LvOk.fold es (done ++ [e]) (putLv z st e) (h.put fun d hd => (List.pairwise_append.mp s).2.2 d hd e (List.mem_cons_self ..)) (by simpa using s)
    simpa using q
def rawLv (z : α → Int × Int) (es : List α) : List (List α) × List Int := (es.mergeSort fun p q => kLe (z p) (z q)).foldl (putLv z) ([], [])
def levelsZ (z : α → Int × Int) (es : List α) : List (List α) := (rawLv z es).1.map fun l => l.mergeSort fun p q => zLe (z p) (z q)
theorem sorted_k (z : α → Int × Int) (es : List α) : (es.mergeSort fun p q => kLe (z p) (z q)).Pairwise fun p q => kLe (z p) (z q) = true := by
  refine List.pairwise_mergeSort (fun a b c h1 h2 => ?_) (fun a b => ?_) es
  · unfold kLe at *
    rw [decide_eq_true_eq] at *
    omega
  · unfold kLe
    rw [Bool.or_eq_true, decide_eq_true_eq, decide_eq_true_eq]
    omega
theorem sorted_z (z : α → Int × Int) (es : List α) : (es.mergeSort fun p q => zLe (z p) (z q)).Pairwise fun p q => zLe (z p) (z q) = true := by
  refine List.pairwise_mergeSort (fun a b c h1 h2 => ?_) (fun a b => ?_) es
  · unfold zLe at *
    rw [decide_eq_true_eq] at *
    omega
  · unfold zLe
    rw [Bool.or_eq_true, decide_eq_true_eq, decide_eq_true_eq]
    omega
theorem raw_ok (z : α → Int × Int) (es : List α) : LvOk z (es.mergeSort fun p q => kLe (z p) (z q)) (rawLv z es) := by
  have := LvOk.fold (es.mergeSort fun p q => kLe (z p) (z q)) [] ([], []) (LvOk.nil z) (by simpa using sorted_k z es)
  rw [List.nil_append] at this
  exact this
/-- the levels: together all, each two of one do not lead one another, each of a further one is led by one of the one ahead -/
structure LevOk (z : α → Int × Int) (es : List α) (Ls : List (List α)) : Prop where
  perm : Ls.flatten.Perm es
  some_ : ∀ l ∈ Ls, l ≠ []
  apart : ∀ l ∈ Ls, l.Pairwise fun e f => leadsB (z e) (z f) = false ∧ leadsB (z f) (z e) = false
  lead : ∀ (i : Nat) (l m : List α), Ls[i]? = some l → Ls[i + 1]? = some m → ∀ f ∈ m, ∃ e ∈ l, leadsB (z e) (z f) = true
  up : ∀ l ∈ Ls, l.Pairwise fun e f => zLe (z e) (z f) = true
theorem flat_perm {f : List α → List α} (h : ∀ l, (f l).Perm l) : ∀ L : List (List α), (L.map f).flatten.Perm L.flatten
  | [] => .nil
  | l :: L => (h l).append (flat_perm h L)
theorem levels_ok (z : α → Int × Int) (es : List α) : LevOk z es (levelsZ z es) := by
  have r := raw_ok z es
  unfold levelsZ
  generalize rawLv z es = st at r
  have ms := fun l : List α => List.mergeSort_perm l fun p q => zLe (z p) (z q)
  refine ⟨((flat_perm ms _).trans r.perm).trans (List.mergeSort_perm ..), fun l hl => ?_, fun l hl => ?_, fun i l m h1 h2 f hf => ?_, fun l hl => ?_⟩
  · obtain ⟨l0, h0, rfl⟩ := List.mem_map.mp hl
    obtain ⟨i, hi⟩ := List.getElem?_of_mem h0
    have hlt := (List.getElem?_eq_some_iff.mp hi).1
    have hlen := r.len
    obtain ⟨_, e, he, _⟩ := r.low i l0 _ hi (List.getElem?_eq_getElem (by omega))
    intro q
    have := (ms l0).mem_iff.mpr he
    rw [q] at this
    cases this
  · obtain ⟨l0, h0, rfl⟩ := List.mem_map.mp hl
    have a := r.apart l0 h0
    have b : l0.Pairwise fun e f => leadsB (z e) (z f) = false ∧ leadsB (z f) (z e) = false := a.imp fun {e f} q => by
      constructor
      · rw [Bool.eq_false_iff]
        intro q2
        have := leads_iff.mp q2
        omega
      · rw [Bool.eq_false_iff]
        intro q2
        have := leads_iff.mp q2
        omega
    exact (ms l0).symm.pairwise b fun {x y} q => ⟨q.2, q.1⟩
  · rw [List.getElem?_map] at h1 h2
    obtain ⟨l0, e0, rfl⟩ := Option.map_eq_some_iff.mp h1
    obtain ⟨m0, e1, rfl⟩ := Option.map_eq_some_iff.mp h2
    obtain ⟨e, he, lg⟩ := r.lead i l0 m0 e0 e1 f ((ms m0).mem_iff.mp hf)
    exact ⟨e, (ms l0).mem_iff.mpr he, lg⟩
  · obtain ⟨l0, h0, rfl⟩ := List.mem_map.mp hl
    exact sorted_z z l0
/-! ### a chain, from the last level to the first -/
/-- those of a crowd that lead the last one of the chain -/
def pickC (z : α → Int × Int) (ch crowd : List α) : List α := crowd.filter fun p => ch.isEmpty || (match ch.getLast? with
  | some c => leadsB (z p) (z c)
  | none => true)
def chainR (z : α → Int × Int) (ch : List α) (Rs : List (List α)) : List α := Rs.foldl (fun ch crowd => ch ++ (pickC z ch crowd).take 1) ch
def chainZ (z : α → Int × Int) (Ls : List (List α)) : List α := chainR z [] Ls.reverse
/-- crowds from the last to the first, each one led by one of the next -/
structure Down (z : α → Int × Int) (Rs : List (List α)) : Prop where
  some_ : ∀ l ∈ Rs, l ≠ []
  step : ∀ (i : Nat) (m l : List α), Rs[i]? = some m → Rs[i + 1]? = some l → ∀ f ∈ m, ∃ e ∈ l, leadsB (z e) (z f) = true
theorem LevOk.down {z : α → Int × Int} {es : List α} {Ls : List (List α)} (h : LevOk z es Ls) : Down z Ls.reverse := by
  refine ⟨fun l hl => h.some_ l (List.mem_reverse.mp hl), fun i m l h1 h2 f hf => ?_⟩
  have c1 := (List.getElem?_eq_some_iff.mp h2).1
  rw [List.length_reverse] at c1
  rw [List.getElem?_reverse (by omega)] at h1 h2
  refine h.lead (Ls.length - 1 - (i + 1)) l m h2 ?_ f hf
  rw [show Ls.length - 1 - (i + 1) + 1 = Ls.length - 1 - i by omega]
  exact h1
/-- the next crowd has one that leads the chain's last -/
def Entry (z : α → Int × Int) (ch : List α) (m : List α) : Prop := ch = [] ∨ ∃ c, ch.getLast? = some c ∧ ∃ e ∈ m, leadsB (z e) (z c) = true
theorem pick_some {z : α → Int × Int} {ch m : List α} (hm : m ≠ []) (en : Entry z ch m) : ∃ x r, pickC z ch m = x :: r ∧ x ∈ m ∧ (∀ c, ch.getLast? = some c → leadsB (z x) (z c) = true) := by
  have ne : ∃ e ∈ m, (ch.isEmpty || (match ch.getLast? with
    | some c => leadsB (z e) (z c)
    | none => true)) = true := by
    rcases en with rfl | ⟨c, hc, e, he, lg⟩
    · cases m with
      | nil => exact absurd rfl hm
      | cons x r => exact ⟨x, List.mem_cons_self .., rfl⟩
    · exact ⟨e, he, by rw [hc]; simp [lg]⟩
  obtain ⟨e, he, q⟩ := ne
  cases hp : pickC z ch m with
  | nil =>
    have this : e ∈ pickC z ch m := by
      unfold pickC
      exact List.mem_filter.mpr ⟨he, q⟩
    rw [hp] at this
    cases this
  | cons x r =>
    have hx : x ∈ pickC z ch m := by rw [hp]; exact List.mem_cons_self ..
    obtain ⟨h1, h2⟩ := List.mem_filter.mp hx
    refine ⟨x, r, rfl, h1, fun c hc => ?_⟩
    rw [hc] at h2
    cases ch with
    | nil => cases hc
    | cons _ _ => simpa using h2
theorem leads_trans {x y w : Int × Int} (h : leadsB x y = true) (h2 : leadsB y w = true) : leadsB x w = true := by
  rw [leads_iff] at *
  omega
theorem chainR_ok {z : α → Int × Int} : ∀ (Rs : List (List α)) (ch : List α), Down z Rs → (∀ m, Rs.head? = some m → Entry z ch m) → ch.Pairwise (fun x y => leadsB (z y) (z x) = true) →
    (chainR z ch Rs).length = ch.length + Rs.length ∧ (chainR z ch Rs).Pairwise (fun x y => leadsB (z y) (z x) = true) ∧ ∀ x ∈ chainR z ch Rs, x ∈ ch ∨ ∃ l ∈ Rs, x ∈ l
  | [], ch, _, _, p => ⟨rfl, p, fun x hx => .inl hx⟩
  | m :: Rs, ch, d, en, p => by
    obtain ⟨x, r, hp, hx, lg⟩ := pick_some (d.some_ m (List.mem_cons_self ..)) (en m rfl)
    have e1 : chainR z ch (m :: Rs) = chainR z (ch ++ [x]) Rs := by
      show chainR z (ch ++ (pickC z ch m).take 1) Rs = _
      rw [hp]
      rfl
    have p2 : (ch ++ [x]).Pairwise (fun x y => leadsB (z y) (z x) = true) := by
      refine List.pairwise_append.mpr ⟨p, List.pairwise_singleton .., fun f hf g hg => ?_⟩
      rw [List.mem_singleton.mp hg]
      -- through the last one
      have ne : ch ≠ [] := fun q => by rw [q] at hf; cases hf
      have hl : ch.getLast? = some (ch.getLast ne) := List.getLast?_eq_some_getLast ne
      have l1 := lg _ hl
      rcases List.mem_append.mp (show f ∈ ch.dropLast ++ [ch.getLast ne] by rw [List.dropLast_concat_getLast ne]; exact hf) with q | q
      · have p3 := p
        rw [← List.dropLast_concat_getLast ne] at p3
        have := (List.pairwise_append.mp p3).2.2 f q _ (List.mem_singleton.mpr rfl)
        exact leads_trans l1 this
      · rw [List.mem_singleton.mp q]
        exact l1
    have d2 : Down z Rs := ⟨fun l hl => d.some_ l (List.mem_cons_of_mem _ hl), fun i a b h1 h2 => d.step (i + 1) a b (by simpa using h1) (by simpa using h2)⟩
    have en2 : ∀ l, Rs.head? = some l → Entry z (ch ++ [x]) l := fun l hl => .inr ⟨x, by simp, d.step 0 m l rfl (by
      cases Rs with
      | nil => cases hl
      | cons a R => simpa using hl) x hx⟩
    obtain ⟨q1, q2, q3⟩ := chainR_ok Rs (ch ++ [x]) d2 en2 p2
    rw [e1]
    refine ⟨by rw [q1, List.length_append]; show ch.length + 1 + Rs.length = ch.length + (Rs.length + 1); omega, q2, fun y hy => ?_⟩
    rcases q3 y hy with q | ⟨l, hl, q⟩
    · rcases List.mem_append.mp q with q | q
      · exact .inl q
      · rw [List.mem_singleton.mp q]
        exact .inr ⟨m, List.mem_cons_self .., hx⟩
    · exact .inr ⟨l, List.mem_cons_of_mem _ hl, q⟩
theorem chain_ok {z : α → Int × Int} {es : List α} {Ls : List (List α)} (h : LevOk z es Ls) : (chainZ z Ls).length = Ls.length ∧ (chainZ z Ls).Pairwise (fun x y => leadsB (z y) (z x) = true) ∧ ∀ x ∈ chainZ z Ls, ∃ l ∈ Ls, x ∈ l := by
  obtain ⟨a, b, c⟩ := chainR_ok Ls.reverse [] h.down (fun _ _ => .inl rfl) .nil
  refine ⟨by rw [show chainZ z Ls = chainR z [] Ls.reverse from rfl, a, List.length_reverse]; simp, b, fun x hx => ?_⟩
  rcases c x hx with q | ⟨l, hl, q⟩
  · cases q
  · exact ⟨l, List.mem_reverse.mp hl, q⟩
end
end RO

namespace RO
open PySem PySem.Spec PyProof.Rows L2
/-! ### truth, K said -/
theorem k_truth (K : PySem.W.Frag) {X : Cx} {a : Expr} {ta : TE} (ha : PE X a ta) (he : ∀ whole, isTrue a X.env whole = (do let v ← whole; standAt a.pos; holding [v] (truthy v)) := by intro _; rfl) (h : X.K = K := by rfl) :
    PT X a (fun σ H Q => ta σ H fun x H' => ∃ k, TruV K x H' k ∧ Q k H') := by
  subst h
  exact pt_truth ha he

/-! ### the chain, crowd by crowd -/
section
variable {α : Type}
theorem chain_step (z : α → Int × Int) {R : List (List α)} {i : Nat} {m : List α} (hm : R[i]? = some m) : chainR z [] (R.take (i + 1)) = chainR z [] (R.take i) ++ (pickC z (chainR z [] (R.take i)) m).take 1 := by
  unfold chainR
  rw [List.take_succ, hm, List.foldl_append]
  rfl
theorem entry_at {z : α → Int × Int} {R : List (List α)} (d : Down z R) : ∀ (i : Nat) (m : List α), R[i]? = some m → Entry z (chainR z [] (R.take i)) m
  | 0, m, _ => .inl rfl
  | i + 1, m, h => by
    have hi := (List.getElem?_eq_some_iff.mp h).1
    have h0 : R[i]? = some R[i] := List.getElem?_eq_getElem (by omega)
    obtain ⟨x, r, hp, hx, _⟩ := pick_some (d.some_ _ (List.mem_of_getElem? h0)) (entry_at d i _ h0)
    rw [chain_step z h0, hp]
    exact .inr ⟨x, by simp, d.step i _ m h0 h x hx⟩
theorem chain_mem {z : α → Int × Int} {R : List (List α)} : ∀ (i : Nat) (x : α), x ∈ chainR z [] (R.take i) → ∃ l ∈ R, x ∈ l
  | 0, x, h => by cases h
  | i + 1, x, h => by
    cases hm : R[i]? with
    | none =>
      rw [List.take_succ, hm] at h
      exact chain_mem i x (by simpa using h)
    | some m =>
      rw [chain_step z hm] at h
      rcases List.mem_append.mp h with q | q
      · exact chain_mem i x q
      · exact ⟨m, List.mem_of_getElem? hm, (List.mem_filter.mp (List.mem_of_mem_take q)).1⟩
theorem chain_len {z : α → Int × Int} {R : List (List α)} : ∀ (i : Nat), (chainR z [] (R.take i)).length ≤ i
  | 0 => Nat.le_refl _
  | i + 1 => by
    cases hm : R[i]? with
    | none =>
      rw [List.take_succ, hm]
      have := chain_len (z := z) (R := R) i
      simp
      omega
    | some m =>
      rw [chain_step z hm, List.length_append]
      have := chain_len (z := z) (R := R) i
      have : ((pickC z (chainR z [] (R.take i)) m).take 1).length ≤ 1 := List.length_take_le ..
      omega
end
end RO

/-! Ringorders: pairs put by their lines, in the order in which the lines come. -/
namespace RO
open PySem PySem.Spec PyProof.Rows L2
section
variable {α : Type}
def addG (l : Str) (e : α) : List (Str × List α) → List (Str × List α)
  | [] => [(l, [e])]
  | (k, m) :: gs => if k = l then (k, m ++ [e]) :: gs else (k, m) :: addG l e gs
def groupsZ (line : α → Str) (es : List α) : List (Str × List α) := es.foldl (fun gs e => addG (line e) e gs) []
theorem addG_cases (l : Str) (e : α) : ∀ gs : List (Str × List α), ((∀ g ∈ gs, g.1 ≠ l) ∧ addG l e gs = gs ++ [(l, [e])]) ∨ ∃ (j : Nat) (m : List α), gs[j]? = some (l, m) ∧ addG l e gs = gs.set j (l, m ++ [e])
  | [] => .inl ⟨(fun _ z => nomatch z), rfl⟩
  | (k, m) :: gs => by
    by_cases c : k = l
    · subst c
      exact .inr ⟨0, m, rfl, by unfold addG; rw [if_pos rfl]; rfl⟩
    · rcases addG_cases l e gs with ⟨h1, h2⟩ | ⟨j, m', h1, h2⟩
      · refine .inl ⟨fun g hg => ?_, by unfold addG; rw [if_neg c, h2]; rfl⟩
        rcases List.mem_cons.mp hg with z | z
        · rw [z]
          exact c
        · exact h1 g z
      · exact .inr ⟨j + 1, m', by simpa using h1, by unfold addG; rw [if_neg c, h2]; rfl⟩
structure GrOk (line : α → Str) (done : List α) (gs : List (Str × List α)) : Prop where
  perm : (gs.map (·.2)).flatten.Perm done
  own : ∀ g ∈ gs, ∀ e ∈ g.2, line e = g.1
  nd : (gs.map (·.1)).Nodup
  some_ : ∀ g ∈ gs, g.2 ≠ []
theorem GrOk.nil (line : α → Str) : GrOk line [] [] := ⟨.nil, (fun _ z => nomatch z), .nil, (fun _ z => nomatch z)⟩
theorem GrOk.add {line : α → Str} {done : List α} {gs : List (Str × List α)} (e : α) (h : GrOk line done gs) : GrOk line (done ++ [e]) (addG (line e) e gs) := by
  rcases addG_cases (line e) e gs with ⟨h1, h2⟩ | ⟨j, m, h1, h2⟩
  · rw [h2]
    refine ⟨?_, fun g hg => ?_, ?_, fun g hg => ?_⟩
    · rw [List.map_append, List.flatten_append]
      simpa using h.perm.append_right [e]
    · rcases List.mem_append.mp hg with z | z
      · exact h.own g z
      · rw [List.mem_singleton.mp z]
        intro x hx
        rw [List.mem_singleton.mp hx]
    · rw [List.map_append]
      refine List.nodup_append.mpr ⟨h.nd, by simp, fun a ha b hb => ?_⟩
      obtain ⟨g, hg, rfl⟩ := List.mem_map.mp ha
      have : b = line e := by simpa using hb
      rw [this]
      exact h1 g hg
    · rcases List.mem_append.mp hg with z | z
      · exact h.some_ g z
      · rw [List.mem_singleton.mp z]
        simp
  · rw [h2]
    have hmem := List.mem_of_getElem? h1
    refine ⟨?_, fun g hg => ?_, ?_, fun g hg => ?_⟩
    · rw [List.map_set]
      refine (flat_set (L := gs.map (·.2)) (k := j) (l := m) (e := e) ?_).trans (h.perm.append_right [e])
      rw [List.getElem?_map, h1]
      rfl
    · rcases List.mem_or_eq_of_mem_set hg with z | z
      · exact h.own g z
      · rw [z]
        intro x hx
        rcases List.mem_append.mp hx with q | q
        · exact h.own _ hmem x q
        · rw [List.mem_singleton.mp q]
    · rw [List.map_set]
      have : (gs.map (·.1)).set j (line e) = gs.map (·.1) := by
        apply List.ext_getElem?
        intro i
        by_cases c : j = i
        · subst c
          have lt : j < (gs.map (·.1)).length := by
            rw [List.length_map]
            exact (List.getElem?_eq_some_iff.mp h1).1
          rw [List.getElem?_set_self lt, List.getElem?_map, h1]
          rfl
        · rw [List.getElem?_set_ne c]
      rw [this]
      exact h.nd
    · rcases List.mem_or_eq_of_mem_set hg with z | z
      · exact h.some_ g z
      · rw [z]
        simp
theorem GrOk.fold {line : α → Str} : ∀ (es done : List α) (gs : List (Str × List α)), GrOk line done gs → GrOk line (done ++ es) (es.foldl (fun gs e => addG (line e) e gs) gs)
  | [], done, gs, h => by simpa using h
  | e :: es, done, gs, h => by
    have := GrOk.fold es (done ++ [e]) _ (h.add e)
    simpa using this
theorem groups_ok (line : α → Str) (es : List α) : GrOk line es (groupsZ line es) := by
  have := GrOk.fold es [] [] (GrOk.nil line)
  rw [List.nil_append] at this
  exact this
/-! ### as a dict -/
def kvOf : List (Str × List α) → List Addr → List (Key × V)
  | g :: gs, l :: ls => (.inr g.1, .ref l) :: kvOf gs ls
  | _, _ => []
theorem kv_len : ∀ (gs : List (Str × List α)) (ls : List Addr), ls.length = gs.length → (kvOf gs ls).length = gs.length
  | [], [], _ => rfl
  | g :: gs, l :: ls, h => by
    show (kvOf gs ls).length + 1 = gs.length + 1
    rw [kv_len gs ls (by simpa using h)]
theorem kv_app : ∀ (gs : List (Str × List α)) (ls : List Addr) (g : Str × List α) (l : Addr), ls.length = gs.length → kvOf (gs ++ [g]) (ls ++ [l]) = kvOf gs ls ++ [(.inr g.1, .ref l)]
  | [], [], _, _, _ => rfl
  | g0 :: gs, l0 :: ls, g, l, h => by
    show _ :: kvOf (gs ++ [g]) (ls ++ [l]) = _ :: (kvOf gs ls ++ _)
    rw [kv_app gs ls g l (by simpa using h)]
theorem kv_set : ∀ (gs : List (Str × List α)) (ls : List Addr) (j : Nat) (k : Str) (m m' : List α), gs[j]? = some (k, m) → kvOf (gs.set j (k, m')) ls = kvOf gs ls
  | [], _, _, _, _, _, h => by simp at h
  | g :: gs, [], 0, _, _, _, _ => rfl
  | g :: gs, [], j + 1, _, _, _, _ => rfl
  | g :: gs, l :: ls, 0, k, m, m', h => by
    have : g = (k, m) := by simpa using h
    subst this
    rfl
  | g :: gs, l :: ls, j + 1, k, m, m', h => by
    show _ :: kvOf (gs.set j (k, m')) ls = _
    rw [kv_set gs ls j k m m' (by simpa using h)]
    rfl
theorem kv_at : ∀ (gs : List (Str × List α)) (ls : List Addr) (i : Nat) (k : Key) (v : V), (kvOf gs ls)[i]? = some (k, v) → ∃ l g, ls[i]? = some l ∧ gs[i]? = some g ∧ v = .ref l
  | [], _, _, _, _, h => by simp [kvOf] at h
  | g :: gs, [], _, _, _, h => by simp [kvOf] at h
  | g :: gs, l :: ls, 0, k, v, h => by
    have h : some ((.inr g.1, .ref l) : Key × V) = some (k, v) := h
    cases h
    exact ⟨l, g, rfl, rfl, rfl⟩
  | g :: gs, l :: ls, i + 1, k, v, h => by
    obtain ⟨l', g', h1, h2, h3⟩ := kv_at gs ls i k v (by simpa [kvOf] using h)
    exact ⟨l', g', by simpa using h1, by simpa using h2, h3⟩
theorem kv_val (k : Str) (e : α) : ∀ (gs : List (Str × List α)) (ls : List Addr), ls.length = gs.length →
    (valV (kvOf gs ls) (.inr k) = none ∧ (∀ v, putK (kvOf gs ls) (.inr k) v = kvOf gs ls ++ [(.inr k, v)]) ∧ addG k e gs = gs ++ [(k, [e])]) ∨
      ∃ (j : Nat) (l : Addr) (m : List α), ls[j]? = some l ∧ gs[j]? = some (k, m) ∧ valV (kvOf gs ls) (.inr k) = some (.ref l) ∧ addG k e gs = gs.set j (k, m ++ [e])
  | [], [], _ => .inl ⟨rfl, fun _ => rfl, rfl⟩
  | (k0, m0) :: gs, l0 :: ls, h => by
    by_cases c : k0 = k
    · subst c
      refine .inr ⟨0, l0, m0, rfl, rfl, ?_, by unfold addG; rw [if_pos rfl]; rfl⟩
      unfold valV kvOf
      rw [List.find?_cons_of_pos (by exact decide_eq_true rfl)]
      rfl
    · have nk : decide ((.inr k0 : Key) = .inr k) = false := decide_eq_false (fun z => c (Sum.inr.inj z))
      have v1 : valV (kvOf ((k0, m0) :: gs) (l0 :: ls)) (.inr k) = valV (kvOf gs ls) (.inr k) := by
        unfold valV
        show Option.map _ (List.find? _ ((.inr k0, .ref l0) :: kvOf gs ls)) = _
        rw [List.find?_cons_of_neg (by
          show ¬ decide ((.inr k0 : Key) = .inr k) = true
          rw [nk]
          exact Bool.false_ne_true)]
      rcases kv_val k e gs ls (by simpa using h) with ⟨h1, h2, h3⟩ | ⟨j, l, m, h1, h2, h3, h4⟩
      · refine .inl ⟨v1.trans h1, fun v => ?_, by unfold addG; rw [if_neg c, h3]; rfl⟩
        have q := h2 v
        unfold putK at q ⊢
        have an : ((kvOf ((k0, m0) :: gs) (l0 :: ls)).any fun kv => decide (kv.1 = .inr k)) = ((kvOf gs ls).any fun kv => decide (kv.1 = .inr k)) := by
          show (decide ((.inr k0 : Key) = .inr k) || _) = _
          rw [nk, Bool.false_or]
        rw [an]
        cases z : ((kvOf gs ls).any fun kv => decide (kv.1 = .inr k)) with
        | false => rfl
        | true =>
          rw [z, if_pos rfl] at q
          have := congrArg List.length q
          simp at this
      · exact .inr ⟨j + 1, l, m, by simpa using h1, by simpa using h2, v1.trans h3, by unfold addG; rw [if_neg c, h4]; rfl⟩
end
end RO

/-! Ringorders: levels, chains and lines speak of the numbers alone. -/
namespace RO
open PySem PySem.Spec PyProof.Rows L2
section
variable {α β : Type} {f : α → β} {z : α → Int × Int} {z2 : β → Int × Int}
theorem sortK_map (h : ∀ a, z2 (f a) = z a) (es : List α) : (es.mergeSort fun p q => kLe (z p) (z q)).map f = (es.map f).mergeSort fun p q => kLe (z2 p) (z2 q) :=
  List.map_mergeSort fun a _ b _ => by rw [h, h]
theorem sortZ_map (h : ∀ a, z2 (f a) = z a) (es : List α) : (es.mergeSort fun p q => zLe (z p) (z q)).map f = (es.map f).mergeSort fun p q => zLe (z2 p) (z2 q) :=
  List.map_mergeSort fun a _ b _ => by rw [h, h]
theorem put_map (h : ∀ a, z2 (f a) = z a) (st : List (List α) × List Int) (e : α) : putLv z2 (st.1.map (List.map f), st.2) (f e) = ((putLv z st e).1.map (List.map f), (putLv z st e).2) := by
  unfold putLv
  dsimp only
  rw [h, List.length_map]
  split
  · rw [List.map_append]
    rfl
  · congr 1
    rw [List.map_set, List.map_append, List.getElem?_map]
    congr 2
    cases st.1[lvAt st.2 (z e).2]? <;> rfl
theorem fold_map (h : ∀ a, z2 (f a) = z a) : ∀ (es : List α) (st : List (List α) × List Int), (es.map f).foldl (putLv z2) (st.1.map (List.map f), st.2) = ((es.foldl (putLv z) st).1.map (List.map f), (es.foldl (putLv z) st).2)
  | [], _ => rfl
  | e :: es, st => by
    show (es.map f).foldl (putLv z2) (putLv z2 (st.1.map (List.map f), st.2) (f e)) = _
    rw [put_map h st e]
    exact fold_map h es (putLv z st e)
theorem levels_map (h : ∀ a, z2 (f a) = z a) (es : List α) : (levelsZ z es).map (List.map f) = levelsZ z2 (es.map f) := by
  have r : rawLv z2 (es.map f) = ((rawLv z es).1.map (List.map f), (rawLv z es).2) := by
    unfold rawLv
    rw [← sortK_map h es]
    exact fold_map h (es.mergeSort fun p q => kLe (z p) (z q)) ([], [])
  unfold levelsZ
  rw [r, List.map_map, List.map_map]
  congr 1
  funext l
  exact sortZ_map h l
theorem pick_map (h : ∀ a, z2 (f a) = z a) (ch m : List α) : (pickC z ch m).map f = pickC z2 (ch.map f) (m.map f) := by
  unfold pickC
  rw [List.filter_map, List.getLast?_map]
  congr 1
  apply List.filter_congr
  intro p _
  show _ = ((ch.map f).isEmpty || _)
  cases ch with
  | nil => rfl
  | cons x c =>
    cases hl : (x :: c).getLast? with
    | none => rfl
    | some y =>
      show (false || leadsB (z p) (z y)) = (false || leadsB (z2 (f p)) (z2 (f y)))
      rw [h, h]
theorem chainR_map (h : ∀ a, z2 (f a) = z a) : ∀ (Rs : List (List α)) (ch : List α), (chainR z ch Rs).map f = chainR z2 (ch.map f) (Rs.map (List.map f))
  | [], _ => rfl
  | m :: Rs, ch => by
    show (chainR z (ch ++ (pickC z ch m).take 1) Rs).map f = chainR z2 (ch.map f ++ (pickC z2 (ch.map f) (m.map f)).take 1) (Rs.map (List.map f))
    rw [chainR_map h Rs, List.map_append, List.map_take, pick_map h]
theorem chain_map (h : ∀ a, z2 (f a) = z a) (Ls : List (List α)) : (chainZ z Ls).map f = chainZ z2 (Ls.map (List.map f)) := by
  unfold chainZ
  rw [chainR_map h, List.map_reverse]
  rfl
theorem addG_map (l : Str) (e : α) : ∀ gs : List (Str × List α), (addG l e gs).map (fun g => (g.1, g.2.map f)) = addG l (f e) (gs.map fun g => (g.1, g.2.map f))
  | [] => rfl
  | (k, m) :: gs => by
    show (addG l e ((k, m) :: gs)).map _ = addG l (f e) ((k, m.map f) :: gs.map _)
    unfold addG
    split
    · rw [List.map_cons]
      simp
    · rw [List.map_cons, addG_map l e gs]
theorem groups_map {line : α → Str} {line2 : β → Str} (h : ∀ a, line2 (f a) = line a) (es : List α) : (groupsZ line es).map (fun g => (g.1, g.2.map f)) = groupsZ line2 (es.map f) := by
  unfold groupsZ
  have : ∀ (es : List α) (gs : List (Str × List α)), (es.foldl (fun gs e => addG (line e) e gs) gs).map (fun g => (g.1, g.2.map f)) = (es.map f).foldl (fun gs e => addG (line2 e) e gs) (gs.map fun g => (g.1, g.2.map f)) := fun es => by
    induction es with
    | nil => exact fun _ => rfl
    | cons e es ih =>
      intro gs
      show (es.foldl _ (addG (line e) e gs)).map _ = (es.map f).foldl _ (addG (line2 (f e)) (f e) (gs.map _))
      rw [ih, addG_map, h]
  exact this es []
end
/-! ### the greatest joining, of numbers -/
def lineZ (A : List Row) (p : Int × Int) : Str := match A[p.1.toNat]? with
  | some x => x.l
  | none => ""
def sharesZ (A : List Row) (zs : List (Int × Int)) : List (List (Int × Int)) := ((groupsZ (lineZ A) zs).map fun g => levelsZ id g.2).flatten
def chainsZ (A : List Row) (zs : List (Int × Int)) : List (Int × Int) := ((groupsZ (lineZ A) zs).map fun g => chainZ id (levelsZ id g.2)).flatten
def greatZ (A : List Row) (zs : List (Int × Int)) : List (Int × Int) := (chainsZ A zs).mergeSort fun p q => zLe p q
end RO

namespace RO
open PySem PySem.Spec PyProof.Rows L2 LamX
def top (i : Nat) : Stmt := PySem.Challenge.pw_ringorders_k43_rows_missed.main.body.getD i (.Pass ⟨0, 0, 0, 0⟩)
abbrev s_is_whole : Stmt := top 4
theorem sc_is_whole : FnScope ["thing"] ["thing"] (defScope s_is_whole) := ⟨rfl, rfl, rfl, by decide +kernel, rfl, by decide +kernel, by decide +kernel⟩
abbrev s_sent_from : Stmt := top 7
theorem sc_sent_from : FnScope ["line"] ["line"] (defScope s_sent_from) := ⟨rfl, rfl, rfl, by decide +kernel, rfl, by decide +kernel, by decide +kernel⟩
abbrev s_missed : Stmt := top 9
theorem sc_missed : FnScope ["bridge", "room", "joining", "rows", "house", "number", "line"] ["bridge", "room", "joining"] (defScope s_missed) := ⟨rfl, rfl, rfl, by decide +kernel, rfl, by decide +kernel, by decide +kernel⟩
abbrev s_unpaired : Stmt := top 10
theorem sc_unpaired : FnScope ["bridge", "room", "joining", "seen", "heard", "rows", "b", "_", "r", "number", "row"] ["bridge", "room", "joining"] (defScope s_unpaired) := ⟨rfl, rfl, rfl, by decide +kernel, rfl, by decide +kernel, by decide +kernel⟩
abbrev s_is_pair : Stmt := top 12
theorem sc_is_pair : FnScope ["bridge", "room", "thing", "b", "r"] ["bridge", "room", "thing"] (defScope s_is_pair) := ⟨rfl, rfl, rfl, by decide +kernel, rfl, by decide +kernel, by decide +kernel⟩
abbrev s_is_number_in : Stmt := top 13
theorem sc_is_number_in : FnScope ["log", "thing"] ["log", "thing"] (defScope s_is_number_in) := ⟨rfl, rfl, rfl, by decide +kernel, rfl, by decide +kernel, by decide +kernel⟩
abbrev s_span : Stmt := top 14
theorem sc_span : FnScope ["bridge", "room", "pair", "lag", "b", "r", "shown_later"] ["bridge", "room", "pair", "lag"] (defScope s_span) := ⟨rfl, rfl, rfl, by decide +kernel, rfl, by decide +kernel, by decide +kernel⟩
abbrev s_fits : Stmt := top 15
theorem sc_fits : FnScope ["bridge", "room", "pair", "d", "lag", "least", "greatest"] ["bridge", "room", "pair", "d", "lag"] (defScope s_fits) := ⟨rfl, rfl, rfl, by decide +kernel, rfl, by decide +kernel, by decide +kernel⟩
abbrev s_all_pairs : Stmt := top 16
theorem sc_all_pairs : FnScope ["bridge", "room", "numbers", "b", "r", "pair"] ["bridge", "room"] (defScope s_all_pairs) := ⟨rfl, rfl, rfl, by decide +kernel, rfl, by decide +kernel, by decide +kernel⟩
abbrev s_pairs_at : Stmt := top 17
theorem sc_pairs_at : FnScope ["bridge", "room", "d", "lag", "pair"] ["bridge", "room", "d", "lag"] (defScope s_pairs_at) := ⟨rfl, rfl, rfl, by decide +kernel, rfl, by decide +kernel, by decide +kernel⟩
abbrev s_greatest : Stmt := top 19
theorem sc_greatest : FnScope ["bridge", "room", "pairs", "d", "lag", "joined", "levels"] ["bridge", "room", "pairs", "d", "lag"] (defScope s_greatest) := ⟨rfl, rfl, rfl, by decide +kernel, rfl, by decide +kernel, by decide +kernel⟩
abbrev s_levels_by_line : Stmt := top 20
theorem sc_levels_by_line : FnScope ["bridge", "pairs", "lines", "pair", "on_line"] ["bridge", "pairs"] (defScope s_levels_by_line) := ⟨rfl, rfl, rfl, by decide +kernel, rfl, by decide +kernel, by decide +kernel⟩
abbrev s_levels_of : Stmt := top 21
theorem sc_levels_of : FnScope ["pairs", "levels", "lowest", "pair", "level", "crowd"] ["pairs"] (defScope s_levels_of) := ⟨rfl, rfl, rfl, by decide +kernel, rfl, by decide +kernel, by decide +kernel⟩
abbrev s_leads : Stmt := top 22
theorem sc_leads : FnScope ["one", "other"] ["one", "other"] (defScope s_leads) := ⟨rfl, rfl, rfl, by decide +kernel, rfl, by decide +kernel, by decide +kernel⟩
abbrev s_chain_through : Stmt := top 23
theorem sc_chain_through : FnScope ["levels", "chain", "crowd", "leading", "pair"] ["levels"] (defScope s_chain_through) := ⟨rfl, rfl, rfl, by decide +kernel, rfl, by decide +kernel, by decide +kernel⟩
abbrev s_joining : Stmt := top 25
theorem sc_joining : FnScope ["bridge", "room", "d", "lag"] ["bridge", "room", "d", "lag"] (defScope s_joining) := ⟨rfl, rfl, rfl, by decide +kernel, rfl, by decide +kernel, by decide +kernel⟩
abbrev s_pen : Stmt := top 27
theorem sc_pen : FnScope ["_law_script"] ["_law_script"] (defScope s_pen) := ⟨rfl, rfl, rfl, by decide +kernel, rfl, by decide +kernel, by decide +kernel⟩
abbrev s_draw : Stmt := top 28
theorem sc_draw : FnScope ["_law_pen_here", "_law_many", "_law_found", "_law_at", "_law_cell", "_law_mixed"] ["_law_pen_here", "_law_many"] (defScope s_draw) := ⟨rfl, rfl, rfl, by decide +kernel, rfl, by decide +kernel, by decide +kernel⟩
abbrev s_pick : Stmt := top 29
theorem sc_pick : FnScope ["_law_pen_here", "_law_some"] ["_law_pen_here", "_law_some"] (defScope s_pick) := ⟨rfl, rfl, rfl, by decide +kernel, rfl, by decide +kernel, by decide +kernel⟩
abbrev s_life : Stmt := top 30
theorem sc_life : FnScope ["_law_pen_here", "_law_most", "_law_gap", "_law_late", "_law_low", "_law_high", "_law_now", "_law_every", "_law_lines", "_law_words", "_law_orders", "_law_across", "_law_logs", "_law_k", "_law_line", "_law_what", "_law_house", "_law_way", "_law_came", "_law_above", "_law_below", "_law_time"] ["_law_pen_here", "_law_most"] (defScope s_life) := ⟨rfl, rfl, rfl, by decide +kernel, rfl, by decide +kernel, by decide +kernel⟩
abbrev s_law_fits : Stmt := top 31
theorem sc_law_fits : FnScope ["_law_above", "_law_below", "_law_b", "_law_r", "_law_gap", "_law_late", "_law_much"] ["_law_above", "_law_below", "_law_b", "_law_r", "_law_gap", "_law_late"] (defScope s_law_fits) := ⟨rfl, rfl, rfl, by decide +kernel, rfl, by decide +kernel, by decide +kernel⟩
abbrev s_greedy : Stmt := top 32
theorem sc_greedy : FnScope ["_law_pen_here", "_law_above", "_law_below", "_law_gap", "_law_late", "_law_share", "_law_found", "_law_b", "_law_r", "_law_bad", "_law_c", "_law_s"] ["_law_pen_here", "_law_above", "_law_below", "_law_gap", "_law_late"] (defScope s_greedy) := ⟨rfl, rfl, rfl, by decide +kernel, rfl, by decide +kernel, by decide +kernel⟩
abbrev s_pairs : Stmt := top 33
theorem sc_pairs : FnScope ["_law_pen_here", "_law_above", "_law_below", "_law_gap", "_law_late", "_law_drawn", "_law_told"] ["_law_pen_here", "_law_above", "_law_below", "_law_gap", "_law_late"] (defScope s_pairs) := ⟨rfl, rfl, rfl, by decide +kernel, rfl, by decide +kernel, by decide +kernel⟩
abbrev s_law_missed : Stmt := top 34
theorem sc_law_missed : FnScope ["_law_above", "_law_below", "_law_pairs_here", "_law_found", "_law_number", "_law_row", "_law_b", "_law_r"] ["_law_above", "_law_below", "_law_pairs_here"] (defScope s_law_missed) := ⟨rfl, rfl, rfl, by decide +kernel, rfl, by decide +kernel, by decide +kernel⟩
abbrev s_law : Stmt := top 35
theorem sc_law : FnScope ["_law_script", "_law_pen_here", "_law_turn", "_law_above", "_law_below", "_law_gap", "_law_late", "_law_again", "_law_pairs_here", "_law_kept", "_law_due", "_law_found"] ["_law_script"] (defScope s_law) := ⟨rfl, rfl, rfl, by decide +kernel, rfl, by decide +kernel, by decide +kernel⟩
structure Txt (w : World) (K : PySem.W.Frag) (mg : Str → Option Value) where
  a_is_whole : Addr
  d_is_whole : FuncData
  F_is_whole : Fun K "is_whole" "is_whole" s_is_whole a_is_whole d_is_whole
  b_is_whole : Binds K d_is_whole ["thing"] []
  g_is_whole : mg "is_whole" = some (.ref a_is_whole)
  a_sent_from : Addr
  d_sent_from : FuncData
  F_sent_from : Fun K "sent_from" "sent_from" s_sent_from a_sent_from d_sent_from
  b_sent_from : Binds K d_sent_from ["line"] []
  g_sent_from : mg "sent_from" = some (.ref a_sent_from)
  a_missed : Addr
  d_missed : FuncData
  F_missed : Fun K "missed" "missed" s_missed a_missed d_missed
  b_missed : Binds K d_missed ["bridge", "room", "joining"] []
  g_missed : mg "missed" = some (.ref a_missed)
  a_unpaired : Addr
  d_unpaired : FuncData
  F_unpaired : Fun K "unpaired" "unpaired" s_unpaired a_unpaired d_unpaired
  b_unpaired : Binds K d_unpaired ["bridge", "room", "joining"] []
  g_unpaired : mg "unpaired" = some (.ref a_unpaired)
  a_is_pair : Addr
  d_is_pair : FuncData
  F_is_pair : Fun K "is_pair" "is_pair" s_is_pair a_is_pair d_is_pair
  b_is_pair : Binds K d_is_pair ["bridge", "room", "thing"] []
  g_is_pair : mg "is_pair" = some (.ref a_is_pair)
  a_is_number_in : Addr
  d_is_number_in : FuncData
  F_is_number_in : Fun K "is_number_in" "is_number_in" s_is_number_in a_is_number_in d_is_number_in
  b_is_number_in : Binds K d_is_number_in ["log", "thing"] []
  g_is_number_in : mg "is_number_in" = some (.ref a_is_number_in)
  a_span : Addr
  d_span : FuncData
  F_span : FunD K "span" "span" (defArgs s_span) (defBody s_span) (defScope s_span) [V.int (0)] [] a_span d_span
  ds4_span : List Value
  v4_span : Vals ([] : List V) ds4_span
  b4_span : Binds K d_span ["bridge", "room", "pair", "lag"] ds4_span
  g_span : mg "span" = some (.ref a_span)
  a_fits : Addr
  d_fits : FuncData
  F_fits : Fun K "fits" "fits" s_fits a_fits d_fits
  b_fits : Binds K d_fits ["bridge", "room", "pair", "d", "lag"] []
  g_fits : mg "fits" = some (.ref a_fits)
  a_all_pairs : Addr
  d_all_pairs : FuncData
  F_all_pairs : Fun K "all_pairs" "all_pairs" s_all_pairs a_all_pairs d_all_pairs
  b_all_pairs : Binds K d_all_pairs ["bridge", "room"] []
  g_all_pairs : mg "all_pairs" = some (.ref a_all_pairs)
  a_pairs_at : Addr
  d_pairs_at : FuncData
  F_pairs_at : FunD K "pairs_at" "pairs_at" (defArgs s_pairs_at) (defBody s_pairs_at) (defScope s_pairs_at) [V.int (0), V.int (0)] [] a_pairs_at d_pairs_at
  ds4_pairs_at : List Value
  v4_pairs_at : Vals ([] : List V) ds4_pairs_at
  b4_pairs_at : Binds K d_pairs_at ["bridge", "room", "d", "lag"] ds4_pairs_at
  g_pairs_at : mg "pairs_at" = some (.ref a_pairs_at)
  a_greatest : Addr
  d_greatest : FuncData
  F_greatest : FunD K "greatest" "greatest" (defArgs s_greatest) (defBody s_greatest) (defScope s_greatest) [V.int (0), V.int (0)] [] a_greatest d_greatest
  ds5_greatest : List Value
  v5_greatest : Vals ([] : List V) ds5_greatest
  b5_greatest : Binds K d_greatest ["bridge", "room", "pairs", "d", "lag"] ds5_greatest
  g_greatest : mg "greatest" = some (.ref a_greatest)
  a_levels_by_line : Addr
  d_levels_by_line : FuncData
  F_levels_by_line : Fun K "levels_by_line" "levels_by_line" s_levels_by_line a_levels_by_line d_levels_by_line
  b_levels_by_line : Binds K d_levels_by_line ["bridge", "pairs"] []
  g_levels_by_line : mg "levels_by_line" = some (.ref a_levels_by_line)
  a_levels_of : Addr
  d_levels_of : FuncData
  F_levels_of : Fun K "levels_of" "levels_of" s_levels_of a_levels_of d_levels_of
  b_levels_of : Binds K d_levels_of ["pairs"] []
  g_levels_of : mg "levels_of" = some (.ref a_levels_of)
  cc_levels_of : Addr
  cd_levels_of : d_levels_of.code = .ref cc_levels_of
  a_leads : Addr
  d_leads : FuncData
  F_leads : Fun K "leads" "leads" s_leads a_leads d_leads
  b_leads : Binds K d_leads ["one", "other"] []
  g_leads : mg "leads" = some (.ref a_leads)
  a_chain_through : Addr
  d_chain_through : FuncData
  F_chain_through : Fun K "chain_through" "chain_through" s_chain_through a_chain_through d_chain_through
  b_chain_through : Binds K d_chain_through ["levels"] []
  g_chain_through : mg "chain_through" = some (.ref a_chain_through)
  a_joining : Addr
  d_joining : FuncData
  F_joining : FunD K "joining" "joining" (defArgs s_joining) (defBody s_joining) (defScope s_joining) [V.int (0), V.int (0)] [] a_joining d_joining
  ds4_joining : List Value
  v4_joining : Vals ([] : List V) ds4_joining
  b4_joining : Binds K d_joining ["bridge", "room", "d", "lag"] ds4_joining
  g_joining : mg "joining" = some (.ref a_joining)
  a_pen : Addr
  d_pen : FuncData
  F_pen : Fun K "_law_pen" "_law_pen" s_pen a_pen d_pen
  b_pen : Binds K d_pen ["_law_script"] []
  g_pen : mg "_law_pen" = some (.ref a_pen)
  a_draw : Addr
  d_draw : FuncData
  F_draw : Fun K "_law_draw" "_law_draw" s_draw a_draw d_draw
  b_draw : Binds K d_draw ["_law_pen_here", "_law_many"] []
  g_draw : mg "_law_draw" = some (.ref a_draw)
  a_pick : Addr
  d_pick : FuncData
  F_pick : Fun K "_law_pick" "_law_pick" s_pick a_pick d_pick
  b_pick : Binds K d_pick ["_law_pen_here", "_law_some"] []
  g_pick : mg "_law_pick" = some (.ref a_pick)
  a_life : Addr
  d_life : FuncData
  F_life : Fun K "_law_life" "_law_life" s_life a_life d_life
  b_life : Binds K d_life ["_law_pen_here", "_law_most"] []
  g_life : mg "_law_life" = some (.ref a_life)
  cc_life : Addr
  cd_life : d_life.code = .ref cc_life
  a_law_fits : Addr
  d_law_fits : FuncData
  F_law_fits : Fun K "_law_fits" "_law_fits" s_law_fits a_law_fits d_law_fits
  b_law_fits : Binds K d_law_fits ["_law_above", "_law_below", "_law_b", "_law_r", "_law_gap", "_law_late"] []
  g_law_fits : mg "_law_fits" = some (.ref a_law_fits)
  a_greedy : Addr
  d_greedy : FuncData
  F_greedy : Fun K "_law_greedy" "_law_greedy" s_greedy a_greedy d_greedy
  b_greedy : Binds K d_greedy ["_law_pen_here", "_law_above", "_law_below", "_law_gap", "_law_late"] []
  g_greedy : mg "_law_greedy" = some (.ref a_greedy)
  a_pairs : Addr
  d_pairs : FuncData
  F_pairs : Fun K "_law_pairs" "_law_pairs" s_pairs a_pairs d_pairs
  b_pairs : Binds K d_pairs ["_law_pen_here", "_law_above", "_law_below", "_law_gap", "_law_late"] []
  g_pairs : mg "_law_pairs" = some (.ref a_pairs)
  a_law_missed : Addr
  d_law_missed : FuncData
  F_law_missed : Fun K "_law_missed" "_law_missed" s_law_missed a_law_missed d_law_missed
  b_law_missed : Binds K d_law_missed ["_law_above", "_law_below", "_law_pairs_here"] []
  g_law_missed : mg "_law_missed" = some (.ref a_law_missed)
  a_law : Addr
  d_law : FuncData
  F_law : Fun K "law" "law" s_law a_law d_law
  b_law : Binds K d_law ["_law_script"] []
  g_law : mg "law" = some (.ref a_law)
  ne_levels_of_life : tabOf K cc_levels_of ≠ tabOf K cc_life
  kb0_missed : KBinds K d_missed ["bridge", "room", "joining"] ["joining", "room", "bridge"] (fun us ws => match us, ws with | [], [x0, x1, x2] => [x2, x1, x0] | _, _ => []) (fun us ws => match us, ws with | [], [x0, x1, x2] => [x2, x1, x0] | _, _ => [])
  z_abs : mg "abs" = none
  z_bool : mg "bool" = none
  z_enumerate : mg "enumerate" = none
  z_int : mg "int" = none
  z_isinstance : mg "isinstance" = none
  z_len : mg "len" = none
  z_list : mg "list" = none
  z_max : mg "max" = none
  z_min : mg "min" = none
  z_range : mg "range" = none
  z_repr : mg "repr" = none
  z_reversed : mg "reversed" = none
  z_sorted : mg "sorted" = none
  z_tuple : mg "tuple" = none
  D_SENDERS : Addr
  c_SENDERS : mg "SENDERS" = some (.ref D_SENDERS)
  es_SENDERS : Array DictEntry
  n_SENDERS : Nat
  kD_SENDERS : KDict K w D_SENDERS es_SENDERS n_SENDERS
  ki_SENDERS : ∀ p ∈ ([("port", V.str "bridge"), ("star", V.str "bridge"), ("down", V.str "bridge"), ("aport", V.str "room"), ("astar", V.str "room"), ("up", V.str "room")] : List (Str × V)), ∃ u, PySem.W.nsIn K D_SENDERS p.1 = some (some u) ∧ RelV p.2 u
  kd_SENDERS : ∀ p ∈ ([("port", V.str "bridge"), ("star", V.str "bridge"), ("down", V.str "bridge"), ("aport", V.str "room"), ("astar", V.str "room"), ("up", V.str "room")] : List (Str × V)), KDct K w D_SENDERS p.1 p.2
def lamQ (x : String) : Str := (Str.ofString x ++ Str.ofString ".<locals>.") ++ Str.ofString "<lambda>"
def tabsT {w : World} {K : PySem.W.Frag} {mg : Str → Option Value} (T : Txt w K mg) : List (Addr × Str) := [(tabOf K T.cc_levels_of, lamQ "levels_of"), (tabOf K T.cc_life, lamQ "_law_life")]
theorem tab_in_levels_of {w : World} {K : PySem.W.Frag} {mg : Str → Option Value} (T : Txt w K mg) : (tabOf K T.cc_levels_of, (Str.ofString "levels_of" ++ Str.ofString ".<locals>.") ++ Str.ofString "<lambda>") ∈ tabsT T := by
  show (tabOf K T.cc_levels_of, lamQ "levels_of") ∈ tabsT T
  simp [tabsT]
theorem tab_un_levels_of {w : World} {K : PySem.W.Frag} {mg : Str → Option Value} (T : Txt w K mg) : ∀ q ∈ tabsT T, q.1 = tabOf K T.cc_levels_of → q.2 = (Str.ofString "levels_of" ++ Str.ofString ".<locals>.") ++ Str.ofString "<lambda>" := by
  intro q hq
  have hq : q = (tabOf K T.cc_levels_of, lamQ "levels_of") ∨ q = (tabOf K T.cc_life, lamQ "_law_life") := by simpa [tabsT] using hq
  rcases hq with rfl | rfl
  · exact fun _ => rfl
  · exact fun z => (T.ne_levels_of_life z.symm).elim
theorem tab_in_life {w : World} {K : PySem.W.Frag} {mg : Str → Option Value} (T : Txt w K mg) : (tabOf K T.cc_life, (Str.ofString "_law_life" ++ Str.ofString ".<locals>.") ++ Str.ofString "<lambda>") ∈ tabsT T := by
  show (tabOf K T.cc_life, lamQ "_law_life") ∈ tabsT T
  simp [tabsT]
theorem tab_un_life {w : World} {K : PySem.W.Frag} {mg : Str → Option Value} (T : Txt w K mg) : ∀ q ∈ tabsT T, q.1 = tabOf K T.cc_life → q.2 = (Str.ofString "_law_life" ++ Str.ofString ".<locals>.") ++ Str.ofString "<lambda>" := by
  intro q hq
  have hq : q = (tabOf K T.cc_levels_of, lamQ "levels_of") ∨ q = (tabOf K T.cc_life, lamQ "_law_life") := by simpa [tabsT] using hq
  rcases hq with rfl | rfl
  · exact fun z => (T.ne_levels_of_life z).elim
  · exact fun _ => rfl
/-! a step of a reading whose answer is fixed: a name, a number's operation -/
local macro_rules | `(tactic| walk_at "rd") => `(tactic| (first
  | refine ⟨_, rfl, ?_⟩
  | refine ⟨_, _, rfl, rfl, ?_⟩
  | (refine And.intro ?rdc ?_; (case rdc => first | decide | omega | exact ⟨by omega, by omega⟩ | exact ⟨by decide, by decide, by omega⟩ | exact .inl ⟨by omega, by omega⟩ | exact .inr ⟨by omega, by omega⟩))))
section
variable {P : Program} {w : World} {K : PySem.W.Frag} {mg : Str → Option Value} {base : Heap}
/-! ### the pen -/
def spDraw (K : PySem.W.Frag) : Sp := fun vs H Q _ => ∃ (p c : Addr) (n : Nat) (m : Int), vs = [.ref p, .int m] ∧ PenAt H p c n ∧ Cells K H p c ∧ n ≤ 1000000 ∧ 1 ≤ m ∧ m < 1073741824 ∧
  ∀ H' r, Go K p c H (n + 1) H' → 0 ≤ r → r < m → Q (.int r) H'
theorem ok_draw (T : Txt w K mg) : FnOk P w K mg base CX0 1 T.a_draw T.d_draw ["_law_pen_here", "_law_many"] (spDraw K) := by
  refine T.F_draw.ok sc_draw (fun vs H Q E h => ?_) (fun cdv A outer s H vs Q E hr h => ?_)
  · obtain ⟨p, c, n, m, rfl, _⟩ := h
    rfl
  · obtain ⟨p, c, n, m, rfl, hp, hc, hn, hm1, hm2, q⟩ := h
    obtain ⟨at_, cy, e, h0, h1, h2⟩ := id hp
    obtain ⟨ne, ns, hS, hl⟩ := id hc
    refine ⟨_, (pss_cons (ps_if (pt_cmpR op_gt (pe_ix (kx_list K) (pv 0) pe_int (fun _ _ => rfl)) pe_int (nomark _)) (pss_cons (ps_set (i := 2) sc_draw.nd rfl (by first | exact Or.inl rfl | exact Or.inr rfl) (pe_op op_modN (pe_ix (kx_list K) (pv 0) pe_int (fun _ _ => rfl)) (pv 1)))
  (pss_cons (ps_asg (pe_op op_fdivN (pe_ix (kx_list K) (pv 0) pe_int (fun _ _ => rfl)) (pv 1)) (pg_sub (pv 0) pe_int set_list))
  (pss_one (ps_ret (pv 2))))) pss_nil)
  (pss_cons (ps_set (i := 3) sc_draw.nd rfl (by first | exact Or.inl rfl | exact Or.inr rfl) (pe_ix (kx_list K) (pv 0) pe_int (fun _ _ => rfl)))
  (pss_cons (ps_asg (pe_op op_add (pv 3) pe_int) (pg_sub (pv 0) pe_int set_list))
  (pss_cons (ps_set (i := 4) sc_draw.nd rfl (by first | exact Or.inl rfl | exact Or.inr rfl) (pe_op op_add (pe_op op_mul pe_int (pv 3)) pe_int))
  (C8.pss_cut (ps_if (pt_cmpR op_gt (pe_callB (k_len K) (by rfl) T.z_len (by decide +kernel) (pa_cons (pe_ix (kx_list K) (pv 0) pe_int (fun _ _ => rfl)) pa_nil)) pe_int (nomark _)) (pss_one (ps_set (i := 4) sc_draw.nd rfl (by first | exact Or.inl rfl | exact Or.inr rfl) (pe_ix (kx_list K) (pe_ix (kx_list K) (pv 0) pe_int (fun _ _ => rfl)) (pe_op op_modN (pv 3) (pe_callB (k_len K) (by rfl) T.z_len (by decide +kernel) (pa_cons (pe_ix (kx_list K) (pv 0) pe_int (fun _ _ => rfl)) pa_nil))) (fun _ _ => rfl)))) pss_nil)
  (C8.pss_cut (ps_if (PW.pt (pw_and (pt_cmpR op_lt (pv 3) (pe_callB (k_len K) (by rfl) T.z_len (by decide +kernel) (pa_cons (pe_ix (kx_list K) (pv 0) pe_int (fun _ _ => rfl)) pa_nil)) (nomark _)) (pw_and1 (pt_cmpR op_ge (pe_callB call_abs (by rfl) T.z_abs (by decide +kernel) (pa_cons (pv 4) pa_nil)) (pe_op op_pow pe_int pe_int) (nomark _))))) (pss_cons (ps_asg (pe_op op_fdivN (pe_callB call_abs (by rfl) T.z_abs (by decide +kernel) (pa_cons (pv 4) pa_nil)) (pv 1)) (pg_sub (pv 0) pe_int set_list))
  (pss_one (ps_ret (pe_op op_modN (pe_callB call_abs (by rfl) T.z_abs (by decide +kernel) (pa_cons (pv 4) pa_nil)) (pv 1))))) pss_nil)
  (pss_cons (ps_set (i := 5) sc_draw.nd rfl (by first | exact Or.inl rfl | exact Or.inr rfl) (pe_op op_modN (pe_op op_pow (pe_op op_add (pe_op op_add (pe_op op_add (pe_op op_modN (pv 4) pe_int) (pe_op op_mul (pe_op op_mul pe_int (pv 3)) (pv 3))) (pe_op op_mul pe_int (pv 3))) pe_int) pe_int) pe_int))
  (pss_cons (ps_set (i := 5) sc_draw.nd rfl (by first | exact Or.inl rfl | exact Or.inr rfl) (pe_op op_modN (pe_op op_mul (pe_op op_pow (pe_op op_add (pe_op op_add (pv 5) (pe_op op_mul pe_int (pv 3))) pe_int) pe_int) (pe_op op_add (pe_op op_modN (pv 5) pe_int) pe_int)) pe_int))
  (pss_one (ps_ret (pe_op op_modN (pe_op op_fdivN (pv 5) pe_int) (pv 1)))))))))))), ?_⟩
    refine ⟨_, rfl, p, _, 2, _, rfl, rfl, SqL.of e, rfl, _, _, rfl, rfl, _, rfl, ite2 (fun t => ?_) (fun t => ?_)⟩
    · -- a rest is left
      have t' : 0 < cy := of_decide_eq_true t
      refine ⟨_, rfl, p, _, 2, _, rfl, rfl, SqL.of e, rfl, _, rfl, _, _, rfl, rfl, (by omega), ?_⟩
      refine ⟨_, rfl, p, _, 2, _, rfl, rfl, SqL.of e, rfl, _, rfl, _, _, rfl, rfl, ⟨by omega, by omega⟩, ?_⟩
      refine ⟨_, rfl, p, _, 2, 2, rfl, rfl, e, rfl, ?_⟩
      refine ⟨_, rfl, q _ _ (Go.make hc But.put upd_same h0 (by omega) (fdiv_ge h2 (by omega))) (fmod_ge (by omega)) (fmod_lt (by omega))⟩
    · refine ⟨_, rfl, p, _, 1, _, rfl, rfl, SqL.of e, rfl, ?_⟩
      refine ⟨_, rfl, _, _, rfl, rfl, _, rfl, p, _, 1, 1, rfl, rfl, e, rfl, ?_⟩
      -- the place goes on
      have e1 : upd H p (.lst ([V.ref c, V.int at_, V.int cy].set 1 (V.int (at_ + 1)))) p = some (.lst [V.ref c, V.int (at_ + 1), V.int cy]) := upd_same
      have b1 : But p H (upd H p (.lst ([V.ref c, V.int at_, V.int cy].set 1 (V.int (at_ + 1))))) := But.put
      generalize upd H p (.lst ([V.ref c, V.int at_, V.int cy].set 1 (V.int (at_ + 1)))) = H1 at e1 b1 ⊢
      have hS1 := b1.seqL ne hS
      refine ⟨_, rfl, _, _, rfl, rfl, .inl ⟨by omega, by omega⟩, _, _, rfl, rfl, ?_⟩
      refine ⟨fun σ' H' => ∃ cell : Int, σ' = [some (.ref p), some (.int m), none, some (.int at_), some (.int cell), none] ∧ H' = H1, ?_, ?_⟩
      · refine ⟨_, rfl, p, _, 0, _, rfl, rfl, SqL.of e1, rfl, c, _, rfl, .inl hS1, _, _, rfl, rfl, _, rfl, ite2 (fun t2 => ?_) (fun t2 => ⟨_, rfl, rfl⟩)⟩
        have l0 : (0 : Int) < ((ns.map V.int).length : Int) := of_decide_eq_true t2
        obtain ⟨v, hv, ev⟩ := atI_fmod (xs := ns.map V.int) (i := at_) (by omega)
        obtain ⟨z, _, rfl⟩ := List.mem_map.mp hv
        exact ⟨_, rfl, p, _, 0, _, rfl, rfl, SqL.of e1, rfl, _, rfl, _, rfl, p, _, 0, _, rfl, rfl, SqL.of e1, rfl, c, _, rfl, .inl hS1, _, _, rfl, rfl, (by omega), c, _, _, _, rfl, rfl, hS1, ev, z, rfl, rfl⟩
      · rintro σ' H' ⟨cell, rfl, rfl⟩
        refine ⟨fun σ2 H2 => σ2 = [some (.ref p), some (.int m), none, some (.int at_), some (.int cell), none] ∧ H2 = H', ?_, ?_⟩
        · refine ⟨_, rfl, _, rfl, p, _, 0, _, rfl, rfl, SqL.of e1, rfl, c, _, rfl, .inl hS1, _, _, rfl, rfl, _, rfl, ite2 (fun t3 => ?_) (fun t3 => iteF ⟨rfl, rfl⟩)⟩
          refine ⟨_, rfl, _, rfl, _, _, rfl, rfl, ⟨by decide, by decide, by decide⟩, _, _, rfl, rfl, _, rfl, ite2 (fun t4 => ?_) (fun t4 => ⟨rfl, rfl⟩)⟩
          have habs : (0 : Int) ≤ if cell < 0 then -cell else cell := by
            split <;> omega
          refine ⟨_, rfl, _, rfl, _, rfl, _, _, rfl, rfl, ⟨by omega, by omega⟩, _, rfl, p, _, 2, 2, rfl, rfl, e1, rfl, ?_⟩
          exact ⟨_, rfl, _, rfl, _, rfl, _, _, rfl, rfl, (by omega), q _ _ (Go.make hc (b1.trans But.put) upd_same (by omega) (by omega) (fdiv_ge habs (by omega))) (fmod_ge (by omega)) (fmod_lt (by omega))⟩
        · rintro σ2 H2 ⟨rfl, rfl⟩
          have a1 := fmod_ge (a := cell) (b := 2147483549) (by decide)
          have a2 := fmod_lt (a := cell) (b := 2147483549) (by decide)
          have a3 : 0 ≤ 50023 * at_ * at_ := Int.mul_nonneg (by omega) h0
          have a4 : 50023 * at_ * at_ ≤ 50023000000 * 1000000 := Int.mul_le_mul (by omega) (by omega) h0 (by decide)
          have z1 := fmod_ge (a := (cell.fmod 2147483549 + 50023 * at_ * at_ + 40063 * at_ + 11) ^ Int.toNat 3) (b := 2147483629) (by decide)
          have z2 := fmod_lt (a := (cell.fmod 2147483549 + 50023 * at_ * at_ + 40063 * at_ + 11) ^ Int.toNat 3) (b := 2147483629) (by decide)
          have z3 := fmod_ge (a := ((cell.fmod 2147483549 + 50023 * at_ * at_ + 40063 * at_ + 11) ^ Int.toNat 3).fmod 2147483629) (b := 60013) (by decide)
          have z4 := fmod_lt (a := ((cell.fmod 2147483549 + 50023 * at_ * at_ + 40063 * at_ + 11) ^ Int.toNat 3).fmod 2147483629) (b := 60013) (by decide)
          repeat (walk_at "rd")
          exact q _ _ (Go.make hc b1 e1 (by omega) (by omega) h2) (fmod_ge (by omega)) (fmod_lt (by omega))
/-! ### one of some -/
def spPick (K : PySem.W.Frag) : Sp := fun vs H Q _ => ∃ (p c q : Addr) (n : Nat) (xs : List V), vs = [.ref p, .ref q] ∧ PenAt H p c n ∧ Cells K H p c ∧ n ≤ 1000000 ∧ (SqL K H q xs ∧ q ≠ p ∨ SqT K H q xs) ∧ xs ≠ [] ∧ xs.length ≤ 1000000 ∧
  ∀ H' v, Go K p c H (n + 1) H' → v ∈ xs → Q v H'
theorem ok_pick (T : Txt w K mg) : FnOk P w K mg base CX0 2 T.a_pick T.d_pick ["_law_pen_here", "_law_some"] (spPick K) := by
  have G_draw := ok_draw (P := P) (base := base) T
  refine T.F_pick.ok sc_pick (fun vs H Q E h => ?_) (fun cdv A outer s H vs Q E hr h => ?_)
  · obtain ⟨p, c, q, n, xs, rfl, _⟩ := h
    rfl
  · obtain ⟨p, c, q, n, xs, rfl, hp, hc, hn, hq, hx, hl, k⟩ := h
    have hr_draw := hr
    have l0 : 0 < xs.length := List.length_pos_iff.mpr hx
    refine ⟨_, (pss_one (ps_ret (pe_ix (kx_seq K) (pv 1) (pe_call G_draw hr_draw (by rfl) T.g_draw T.F_draw.kp T.b_draw .nil pass0 (pa_cons (pv 0) (pa_cons (pe_callB (k_len K) (by rfl) T.z_len (by decide +kernel) (pa_cons (pv 1) pa_nil)) pa_nil))) (fun _ _ => rfl)))), ?_⟩
    refine ⟨_, rfl, _, rfl, _, rfl, q, xs, rfl, hq.imp And.left id, p, c, n, _, rfl, hp, hc, hn, by omega, by omega, fun H' r g r0 r1 => ?_⟩
    obtain ⟨v, hv, ev⟩ := atI_lt r0 r1
    rcases hq with ⟨hq, nq⟩ | hq
    · exact .inl ⟨q, xs, r, v, rfl, rfl, g.but.seqL nq hq, ev, k _ _ g hv⟩
    · exact .inr (.inl ⟨q, xs, r, v, rfl, rfl, seqT_go hq hp g.but, ev, k _ _ g hv⟩)

def spPen (K : PySem.W.Frag) : Sp := fun vs H Q _ => ∃ (a : Addr) (ns : List Int), vs = [.ref a] ∧ SqL K H a (ns.map V.int) ∧ ns.length ≤ 63 ∧ ∀ H' p c, Same H H' → H p = none → PenAt H' p c 0 → Cells K H' p c → Q (.ref p) H'
theorem ok_pen (T : Txt w K mg) : FnOk P w K mg base CX0 1 T.a_pen T.d_pen ["_law_script"] (spPen K) := by
  refine T.F_pen.ok sc_pen (fun vs H Q E h => ?_) (fun cdv A outer s H vs Q E hr h => ?_)
  · obtain ⟨a, ns, rfl, _⟩ := h
    rfl
  · obtain ⟨a, ns, rfl, hS, hl, k⟩ := h
    refine ⟨_, (pss_one (ps_ret (pe_lst (pa_cons (pe_slice (k_slL K) (pv 0) po_none (po_some pe_int)) (pa_cons pe_int (pa_cons pe_int pa_nil)))))), ?_⟩
    refine ⟨_, rfl, _, rfl, a, _, rfl, hS, fun c hc => ?_⟩
    generalize hX : upd H c _ = H1
    obtain ⟨S1, f1⟩ := alloc hc hX
    clear hX
    refine ⟨(by show 3 ≤ sizeLine; decide), fun p hp => ?_⟩
    generalize hX : upd H1 p _ = H2
    obtain ⟨S2, f2⟩ := alloc hp hX
    clear hX
    have e : cutV (ns.map V.int) none (some 63) = (ns.take (min 63 ns.length)).map V.int := by
      show cutV (ns.map V.int) none (some ((63 : Nat) : Int)) = _
      unfold cutV
      rw [HT.sIx_none, HT.sIx_nat, List.drop_zero, Nat.sub_zero, List.length_map, List.map_take]
    rw [e] at f1
    exact k H2 p c (S1.trans S2) (S1.free hp) ⟨0, 0, f2, by decide, by decide, by decide⟩ ⟨ne_of_none f1 hp, _, SqL.of (S2 _ _ f1), by rw [List.length_take]; omega⟩

/-! ### a chain through the levels -/
def spLeads (K : PySem.W.Frag) : Sp := fun vs H Q _ => ∃ (t1 t2 : Addr) (x y : Int × Int), vs = [.ref t1, .ref t2] ∧ PrAt K H t1 x ∧ PrAt K H t2 y ∧ Q (.bl (leadsB x y)) H
theorem ok_leads (T : Txt w K mg) : FnOk P w K mg base CX0 1 T.a_leads T.d_leads ["one", "other"] (spLeads K) := by
  refine T.F_leads.ok sc_leads (fun vs H Q E h => ?_) (fun cdv A' outer s H vs Q E hr h => ?_)
  · obtain ⟨t1, t2, x, y, rfl, _⟩ := h
    rfl
  · obtain ⟨t1, t2, x, y, rfl, h1, h2, k⟩ := h
    refine ⟨_, (pss_one (ps_ret (pe_and (pe_cmpR op_lt (pe_ix (kx_tup K) (pv 0) pe_int (fun _ _ => rfl)) (pe_ix (kx_tup K) (pv 1) pe_int (fun _ _ => rfl)) (nomark _)) (pe_one (pe_cmpR op_lt (pe_ix (kx_tup K) (pv 0) pe_int (fun _ _ => rfl)) (pe_ix (kx_tup K) (pv 1) pe_int (fun _ _ => rfl)) (nomark _)))))), ?_⟩
    refine ⟨_, rfl, t1, _, 0, _, rfl, rfl, h1, rfl, _, rfl, t2, _, 0, _, rfl, rfl, h2, rfl, _, _, rfl, rfl, _, rfl, ?_⟩
    unfold leadsB at k
    show if decide (x.1 < y.1) = true then _ else _
    cases z : decide (x.1 < y.1) with
    | false =>
      rw [z] at k
      exact iteF k
    | true =>
      rw [z, Bool.true_and] at k
      refine iteT ?_
      exact ⟨_, rfl, t1, _, 1, _, rfl, rfl, h1, rfl, _, rfl, t2, _, 1, _, rfl, rfl, h2, rfl, _, _, rfl, rfl, k⟩
/-- a list of pairs at a -/
def LsAt (H : Hp) (a : Addr) (es : List Pe) : Prop := H a = some (.lst (es.map pv_))
theorem PeAt.same {K : PySem.W.Frag} {H H1 : Hp} {es : List Pe} (h : PeAt K H es) (s : Same H H1) : PeAt K H1 es := fun e he => (h e he).same s
theorem atI_last {α : Type} (l : List α) (x : α) : atI (l ++ [x]) (-1) = some x := by
  unfold atI
  have e : ixN (l ++ [x]).length (-1) = some l.length := by
    unfold ixN
    rw [if_neg (by decide), List.length_append]
    show (if -((l.length + 1 : Nat) : Int) ≤ -1 then some (-1 + ((l.length + 1 : Nat) : Int)).toNat else none) = _
    rw [if_pos (by omega)]
    congr 1
    omega
  rw [e]
  show (l ++ [x])[l.length]? = _
  simp
def spChain (K : PySem.W.Frag) : Sp := fun vs H Q _ => ∃ (t : Addr) (ls : List Addr) (Ls : List (List Pe)) (es : List Pe), vs = [.ref t] ∧ SqL K H t (ls.map V.ref) ∧ At2 (LsAt H) ls Ls ∧ LevOk (fun e : Pe => e.2) es Ls ∧ PeAt K H es ∧ Ls.length ≤ 1600 ∧ (∀ l ∈ Ls, l.length ≤ 1600) ∧
  ∀ H' q, Same H H' → H q = none → LsAt H' q (chainZ (fun e : Pe => e.2) Ls) → Q (.ref q) H'
theorem ok_chain (T : Txt w K mg) : FnOk P w K mg base CX0 2 T.a_chain_through T.d_chain_through ["levels"] (spChain K) := by
  have G_leads := ok_leads (P := P) (base := base) T
  refine T.F_chain_through.ok sc_chain_through (fun vs H Q E h => ?_) (fun cdv A' outer s H vs Q E hr h => ?_)
  · obtain ⟨t, ls, Ls, es, rfl, _⟩ := h
    rfl
  · obtain ⟨t, ls, Ls, es, rfl, hL, hA, lev, hP, lN, lM, k⟩ := h
    have hr_leads := hr
    refine ⟨_, (pss_cons (ps_set (i := 1) sc_chain_through.nd rfl (by first | exact Or.inl rfl | exact Or.inr rfl) (pe_lst pa_nil))
  (pss_cons (ps_for PassesOwn.never rfl (RT.pi_revA (by rfl) T.z_reversed (pv 0)) (pg_name (i := 2) sc_chain_through.nd rfl (by first | exact Or.inl rfl | exact Or.inr rfl)) (pss_cons (ps_setLc (i := 3) (own := [("pair", 4)]) rfl sc_chain_through.nd rfl rfl (sw_true rfl rfl rfl (by decide +kernel)) (k_piL K (pv 2)) (blkOk_by (own := [("pair", 4)]) (N := ["levels", "chain", "crowd", "leading", "pair"]) (sc := defScope s_chain_through) (by decide +kernel)) (fun _ _ _ _ _ => (pg_name (i := 4) sc_chain_through.nd rfl (by first | exact Or.inl rfl | exact Or.inr rfl))) (fun _ _ _ _ _ => (pts_one (PW.pt (pw_or (pt_not (k_truth K (pv 1))) (pw_or1 (pt_val (pe_call G_leads hr_leads (by rfl) T.g_leads T.F_leads.kp T.b_leads .nil pass0 (pa_cons (pv 4) (pa_cons (pe_ix (kx_list K) (pv 1) (pe_un un_neg pe_int) (fun _ _ => rfl)) pa_nil))))))))) (fun _ _ _ _ _ => (pv 4)))
  (pss_one (ps_expr (pe_bm PySem.F.plainAttrs_list PySem.F.slot_list_append PySem.F.type_list_append mt_append (pv 1) (pa_cons (pe_ix (kx_list K) (pv 3) pe_int (fun _ _ => rfl)) pa_nil))))))
  (pss_one (ps_ret (pv 1))))), ?_⟩
    refine ⟨(by show 0 ≤ sizeLine; decide), fun D hD => ?_⟩
    generalize hX : upd H D _ = H1
    obtain ⟨S1, f1⟩ := alloc hD hX
    clear hX
    have len := hA.len
    have zR : ∀ i : Nat, i < Ls.length → ∃ m, Ls.reverse[i]? = some m ∧ Ls[Ls.length - 1 - i]? = some m := fun i hi => by
      refine ⟨Ls[Ls.length - 1 - i], ?_, List.getElem?_eq_getElem (by omega)⟩
      rw [List.getElem?_reverse hi]
      exact List.getElem?_eq_getElem (by omega)
    refine ⟨_, rfl, t, _, rfl, .inl ⟨same_seqL S1 hL, ?_⟩⟩
    refine for_it walk_rev (fun i σ H' => ∃ (x2 x3 : Option V), σ = [some (.ref t), some (.ref D), x2, x3, none] ∧ Same H H' ∧ H' D = some (.lst ((chainR (fun e : Pe => e.2) [] (Ls.reverse.take i)).map pv_)))
      ⟨none, none, rfl, S1, f1⟩ (fun i σ H' _ ⟨_, _, _, s, _⟩ => same_seqL s hL) ?_ ?_
    · rintro i v σ _ H2 hi ⟨x2, x3, rfl, S2, e2⟩ ⟨rfl, hv⟩
      rw [List.length_map, len] at hi
      rw [List.length_map, len] at hv
      obtain ⟨l, hl, rfl⟩ := map_get hv
      obtain ⟨m, hm, hm2⟩ := zR i hi
      obtain ⟨m', hm', lsm⟩ := hA.get' hl
      rw [hm2] at hm'
      cases hm'
      have lsm2 : H2 l = some (.lst (m.map pv_)) := S2 _ _ lsm
      refine ⟨_, rfl, l, rfl, ⟨_, SqL.of lsm2⟩, fun D2 hD2 => ?_⟩
      generalize hch : chainR (fun e : Pe => e.2) [] (Ls.reverse.take i) = ch at e2
      have mm : m ∈ Ls := List.mem_of_getElem? hm2
      have hPm : ∀ e ∈ m, PrAt K H e.1 e.2 := fun e he => hP e (lev.perm.mem_iff.mp (List.mem_flatten.mpr ⟨m, mm, he⟩))
      have hPc : ∀ e ∈ ch, PrAt K H e.1 e.2 := fun e he => by
        rw [← hch] at he
        obtain ⟨l', hl', q⟩ := chain_mem i e he
        exact hP e (lev.perm.mem_iff.mp (List.mem_flatten.mpr ⟨l', List.mem_reverse.mp hl', q⟩))
      refine lc_it walk_list (fun j H' => Same H2 H' ∧ H' D2 = some (.lst ((pickC (fun e : Pe => e.2) ch (m.take j)).map pv_))) ⟨same_new (Same.refl _) hD2, by rw [List.take_zero]; exact upd_same⟩ (fun j H' _ q => SqL.of (q.1 _ _ lsm2)) ?_ ?_
      · rintro j v _ H3 hj ⟨S3, e3⟩ ⟨rfl, hv2⟩
        rw [List.length_map] at hj
        obtain ⟨e, he, rfl⟩ := map_get hv2
        have e3D : H3 D = some (.lst (ch.map pv_)) := S3 _ _ e2
        have pk : pickC (fun e : Pe => e.2) ch (m.take (j + 1)) = pickC (fun e : Pe => e.2) ch (m.take j) ++ pickC (fun e : Pe => e.2) ch [e] := by
          unfold pickC
          rw [List.take_succ, he, List.filter_append]
          rfl
        have lj : (pickC (fun e : Pe => e.2) ch (m.take j)).length ≤ 1600 := Nat.le_trans (List.length_filter_le _ _) (Nat.le_trans (List.length_take_le' ..) (lM m mm))
        have big : ((pickC (fun e : Pe => e.2) ch (m.take j)).map pv_).length < sizeLine := by
          rw [List.length_map]
          exact Nat.lt_of_le_of_lt lj (by decide)
        refine ⟨rfl, _, rfl, !(ch.map pv_).isEmpty, .inl ⟨_, SqL.of e3D, rfl⟩, ?_⟩
        have take_ : pickC (fun e : Pe => e.2) ch [e] = [e] → tVar 4 ((wipe ([some (V.ref t), some (V.ref D), x2, x3, none].set 2 (some (V.ref l))) [4]).set 4 (some (pv_ e))) H3 fun y H4 => ∃ acc, H4 D2 = some (HO.lst acc) ∧ acc.length < sizeLine ∧ Same H2 (upd H4 D2 (HO.lst (acc ++ [y]))) ∧
            upd H4 D2 (HO.lst (acc ++ [y])) D2 = some (HO.lst ((pickC (fun e : Pe => e.2) ch (m.take (j + 1))).map pv_)) := fun q =>
          ⟨_, rfl, _, e3, big, same_own S3 hD2, by rw [upd_same, pk, q, List.map_append]; rfl⟩
        have keep_ : pickC (fun e : Pe => e.2) ch [e] = [] → Same H2 H3 ∧ H3 D2 = some (HO.lst ((pickC (fun e : Pe => e.2) ch (m.take (j + 1))).map pv_)) := fun q => ⟨S3, by rw [pk, q, List.append_nil]; exact e3⟩
        rcases List.eq_nil_or_concat ch with c0 | ⟨c1, y, c0⟩
        · subst c0
          exact iteT (take_ rfl)
        · have c0 : ch = c1 ++ [y] := by rw [c0, List.concat_eq_append]
          have ne : (!(ch.map pv_).isEmpty) = true := by rw [c0]; simp
          rw [ne]
          refine iteF ?_
          have at_ : atI (ch.map pv_) (-1) = some (pv_ y) := by
            rw [c0, List.map_append]
            exact atI_last _ _
          have er : e ∈ m := List.mem_of_getElem? he
          have yr : y ∈ ch := by rw [c0]; simp
          refine ⟨_, rfl, _, rfl, _, rfl, D, _, _, _, rfl, rfl, SqL.of e3D, at_, e.1, y.1, e.2, y.2, rfl, (hPm e er).same (S2.trans S3), (hPc y yr).same (S2.trans S3), _, rfl, ?_⟩
          have pe : pickC (fun e : Pe => e.2) ch [e] = if leadsB e.2 y.2 = true then [e] else [] := by
            unfold pickC
            rw [c0]
            simp [List.filter_cons]
          refine ite2 (fun q => take_ (by rw [pe, if_pos q])) (fun q => keep_ (by rw [pe, if_neg q]))
      · rintro H3 ⟨S3, e3⟩
        obtain ⟨x, r, hp, hx, _⟩ := pick_some (lev.some_ m mm) (by
          have z := entry_at lev.down i m hm
          rw [hch] at z
          exact z)
        rw [List.length_map, List.take_length, hp] at e3
        have e3D : H3 D = some (.lst (ch.map pv_)) := S3 _ _ e2
        have lc := chain_len (z := fun e : Pe => e.2) (R := Ls.reverse) i
        rw [hch] at lc
        refine ⟨_, rfl, .inl ⟨rfl, _, SqL.of e3D⟩, ?_⟩
        refine ⟨_, rfl, D2, _, 0, pv_ x, rfl, rfl, SqL.of e3, atI_nat rfl, D, _, _, rfl, rfl, e3D, ?_, ?_⟩
        · rw [List.length_map]
          exact Nat.lt_of_le_of_lt (show ch.length ≤ 1600 by omega) (by decide)
        · refine ⟨_, _, rfl, same_own (S2.trans S3) hD, ?_⟩
          rw [upd_same, chain_step (fun e : Pe => e.2) hm, hch, hp, List.map_append]
          rfl
    · rintro σ H2 ⟨x2, x3, rfl, S2, e2⟩
      have e2 : H2 D = some (.lst ((chainZ (fun e : Pe => e.2) Ls).map pv_)) := by
        rw [e2, List.length_map, len, ← List.length_reverse, List.take_length]
        rfl
      exact ⟨_, rfl, k H2 D S2 hD e2⟩
/-! ### the levels of one line's pairs -/
theorem PeAt.ext {K : PySem.W.Frag} {H H1 : Hp} {es : List Pe} (h : PeAt K H es) (s : ExtN H H1) : PeAt K H1 es := fun e he => by
  rcases h e he with (z | ⟨o, z⟩) | z
  · exact .inl (.inl (s _ _ z (fun ps => nofun)))
  · exact .inl (.inr ⟨o, s _ _ z (fun ps => nofun)⟩)
  · exact .inr z
/-- nothing of ours stands at q but a table, perhaps -/
def NewF (H : Hp) (q : Addr) : Prop := ∀ o, H q = some o → ∃ ps, o = .tbl ps
theorem NewF.of {H : Hp} {q : Addr} (h : H q = none) : NewF H q := fun o e => by rw [h] at e; cases e
theorem NewF.ext {H0 H : Hp} {q : Addr} (s : ExtN H0 H) (h : NewF H q) : NewF H0 q := fun o e => by
  cases o with
  | tbl ps => exact ⟨ps, rfl⟩
  | _ =>
    obtain ⟨ps, z⟩ := h _ (s q _ e (fun _ => nofun))
    cases z
theorem NewF.ne {H : Hp} {q b : Addr} {o : HO} (h : NewF H q) (e : H b = some o) (n : ∀ ps, o ≠ .tbl ps) : b ≠ q := fun z => by
  rw [z] at e
  obtain ⟨ps, q⟩ := h o e
  exact n ps q
theorem ext_own {H0 H : Hp} {l : Addr} {o : HO} (h : ExtN H0 H) (hl : NewF H0 l) : ExtN H0 (upd H l o) := fun b u e z => (upd_ne (hl.ne e z)).trans (h b u e z)
theorem at2_imp {α : Type} {p q : Addr → α → Prop} {as : List Addr} {xs : List α} (h : At2 p as xs) (f : ∀ a x, a ∈ as → p a x → q a x) : At2 q as xs := At2.of_zip h.len fun i a x ha hx => by
  obtain ⟨y, hy, q1⟩ := h.get' ha
  rw [hx] at hy
  cases hy
  exact f a x (List.mem_of_getElem? ha) q1
theorem nodup_at {ls : List Addr} {i j : Nat} {l : Addr} (h : ls.Nodup) (hi : ls[i]? = some l) (hj : ls[j]? = some l) : i = j := by
  obtain ⟨i1, i2⟩ := List.getElem?_eq_some_iff.mp hi
  obtain ⟨j1, j2⟩ := List.getElem?_eq_some_iff.mp hj
  have p := List.pairwise_iff_getElem.mp h
  rcases Nat.lt_trichotomy i j with c | c | c
  · exact absurd (i2.trans j2.symm) (p i j i1 j1 c)
  · exact c
  · exact absurd (j2.trans i2.symm) (p j i j1 i1 c)
/-- the levels so far: D the list of lists, W the lowest ones -/
structure LvRun (T : List (Addr × Str)) (H0 H : Hp) (D W : Addr) (ls : List Addr) (st : List (List Pe) × List Int) : Prop where
  ext : ExtN H0 H
  tab : Tabs T H
  eD : H D = some (.lst (ls.map V.ref))
  eW : H W = some (.lst (st.2.map V.int))
  lv : At2 (LsAt H) ls st.1
  nd : ls.Nodup
  new : ∀ l ∈ ls, NewF H0 l ∧ l ≠ D ∧ l ≠ W
theorem LvRun.same {T : List (Addr × Str)} {H0 H H1 : Hp} {D W : Addr} {ls : List Addr} {st : List (List Pe) × List Int} (h : LvRun T H0 H D W ls st) (s : Same H H1) : LvRun T H0 H1 D W ls st :=
  ⟨h.ext.trans (ExtN.of s), h.tab.ext s, s _ _ h.eD, s _ _ h.eW, h.lv.imp fun _ _ q => s _ _ q, h.nd, h.new⟩
theorem LvRun.level {T : List (Addr × Str)} {H0 H : Hp} {D W q : Addr} {ls : List Addr} {st : List (List Pe) × List Int} {r : Int} (h : LvRun T H0 H D W ls st) (hq : H q = none) (dw : D ≠ W) (hD : NewF H0 D) (hW : NewF H0 W) :
    LvRun T H0 (upd (upd (upd H q (.lst [])) D (.lst (ls.map V.ref ++ [V.ref q]))) W (.lst (st.2.map V.int ++ [V.int r]))) D W (ls ++ [q]) (st.1 ++ [[]], st.2 ++ [r]) := by
  have qD : q ≠ D := Ne.symm (ne_of_none h.eD hq)
  have qW : q ≠ W := Ne.symm (ne_of_none h.eW hq)
  have nq : NewF H0 q := .ext h.ext (.of hq)
  have e1 : upd H q (.lst []) D = some (.lst (ls.map V.ref)) := (upd_ne (Ne.symm qD)).trans h.eD
  have e2 : upd (upd H q (.lst [])) D (.lst (ls.map V.ref ++ [V.ref q])) W = some (.lst (st.2.map V.int)) := by
    rw [upd_ne (Ne.symm dw), upd_ne (Ne.symm qW)]
    exact h.eW
  refine ⟨ext_own (ext_own (ext_own h.ext nq) hD) hW, tabs_set (tabs_set (tabs_new h.tab hq) e1) e2, ?_, ?_, ?_, ?_, ?_⟩
  · rw [upd_ne dw, upd_same, List.map_append]
    rfl
  · rw [upd_same, List.map_append]
    rfl
  · refine (at2_imp h.lv fun l es hl q1 => ?_).snoc ?_
    · obtain ⟨_, n1, n2⟩ := h.new l hl
      show _ = _
      rw [upd_ne n2, upd_ne n1, upd_ne (ne_of_none q1 hq)]
      exact q1
    · show _ = _
      rw [upd_ne qW, upd_ne qD, upd_same]
      rfl
  · refine List.nodup_append.mpr ⟨h.nd, by simp, fun a ha b hb => ?_⟩
    rw [List.mem_singleton.mp hb]
    obtain ⟨i, hi⟩ := List.getElem?_of_mem ha
    obtain ⟨x, _, e⟩ := h.lv.get' hi
    exact ne_of_none e hq
  · intro l hl
    rcases List.mem_append.mp hl with z | z
    · exact h.new l z
    · rw [List.mem_singleton.mp z]
      exact ⟨nq, qD, qW⟩
theorem LvRun.put {T : List (Addr × Str)} {H0 H : Hp} {D W l : Addr} {ls : List Addr} {st : List (List Pe) × List Int} {k : Nat} {m : List Pe} {e : Pe} {r : Int} (h : LvRun T H0 H D W ls st) (dw : D ≠ W) (hW : NewF H0 W) (hk : ls[k]? = some l) (hm : st.1[k]? = some m) :
    LvRun T H0 (upd (upd H l (.lst (m.map pv_ ++ [pv_ e]))) W (.lst ((st.2.map V.int).set k (V.int r)))) D W ls (st.1.set k (m ++ [e]), st.2.set k r) := by
  obtain ⟨nl, lD, lW⟩ := h.new l (List.mem_of_getElem? hk)
  obtain ⟨m', hm', el⟩ := h.lv.get' hk
  rw [hm] at hm'
  cases hm'
  have el : H l = some (.lst (m.map pv_)) := el
  have eW : upd H l (.lst (m.map pv_ ++ [pv_ e])) W = some (.lst (st.2.map V.int)) := (upd_ne (Ne.symm lW)).trans h.eW
  refine ⟨ext_own (ext_own h.ext nl) hW, tabs_set (tabs_set h.tab el) eW, ?_, ?_, ?_, h.nd, h.new⟩
  · rw [upd_ne dw, upd_ne (Ne.symm lD)]
    exact h.eD
  · rw [upd_same, List.map_set]
  · refine At2.of_zip (by rw [List.length_set]; exact h.lv.len) fun i a x ha hx => ?_
    have nW : a ≠ W := (h.new a (List.mem_of_getElem? ha)).2.2
    show _ = _
    rw [upd_ne nW]
    have hx : (st.1.set k (m ++ [e]))[i]? = some x := hx
    by_cases c : k = i
    · subst c
      rw [hk] at ha
      cases ha
      have lt : k < st.1.length := (List.getElem?_eq_some_iff.mp hm).1
      rw [List.getElem?_set_self lt] at hx
      cases hx
      rw [upd_same, List.map_append]
      rfl
    · rw [List.getElem?_set_ne c] at hx
      have al : a ≠ l := fun z => by
        rw [z] at ha
        exact c (nodup_at h.nd hk ha)
      rw [upd_ne al]
      obtain ⟨x', hx', e1⟩ := h.lv.get' ha
      rw [hx] at hx'
      cases hx'
      exact e1
theorem lvAt_step {ls : List Int} {r v : Int} {k : Nat} (h : k ≤ lvAt ls r) (e : ls[k]? = some v) (lt : v < r) : k + 1 ≤ lvAt ls r := by
  rcases Nat.lt_or_ge k (lvAt ls r) with c | c
  · exact c
  · obtain rfl : k = lvAt ls r := by omega
    have := lvAt_at e
    omega
theorem lvAt_stop {ls : List Int} {r v : Int} {k : Nat} (h : k ≤ lvAt ls r) (e : ls[k]? = some v) (lt : ¬ v < r) : k = lvAt ls r := by
  rcases Nat.lt_or_ge k (lvAt ls r) with c | c
  · exact absurd (lvAt_lt c e) lt
  · omega
theorem lvAt_end {ls : List Int} {r : Int} {k : Nat} (h : k ≤ lvAt ls r) (e : ls.length ≤ k) : k = lvAt ls r := by
  have := lvAt_le ls r
  omega
/-- the levels behind so many pairs -/
def lvN (es : List Pe) (i : Nat) : List (List Pe) × List Int := ((byKey es).take i).foldl (putLv fun e : Pe => e.2) ([], [])
theorem lvN_succ {es : List Pe} {i : Nat} {e : Pe} (h : (byKey es)[i]? = some e) : lvN es (i + 1) = putLv (fun e : Pe => e.2) (lvN es i) e := by
  unfold lvN
  rw [List.take_succ, h, List.foldl_append]
  rfl
theorem lvN_len (es : List Pe) : ∀ i, (lvN es i).1.length = (lvN es i).2.length ∧ (lvN es i).1.length ≤ i
  | 0 => ⟨rfl, Nat.le_refl _⟩
  | i + 1 => by
    have ih := lvN_len es i
    cases h : (byKey es)[i]? with
    | none =>
      have : lvN es (i + 1) = lvN es i := by
        unfold lvN
        rw [List.take_succ, h]
        simp
      rw [this]
      omega
    | some e =>
      rw [lvN_succ h]
      unfold putLv
      split
      · simp only [List.length_append, List.length_singleton]
        omega
      · simp only [List.length_set]
        omega
theorem lvN_ok (es : List Pe) (i : Nat) : LvOk (fun e : Pe => e.2) ((byKey es).take i) (lvN es i) := by
  have s : (byKey es).Pairwise fun p q => kLe p.2 q.2 = true := sorted_k (fun e : Pe => e.2) es
  have := LvOk.fold ((byKey es).take i) [] ([], []) (LvOk.nil fun e : Pe => e.2) (by rw [List.nil_append]; exact s.sublist (List.take_sublist ..))
  rw [List.nil_append] at this
  exact this
theorem lvN_all (es : List Pe) : lvN es es.length = rawLv (fun e : Pe => e.2) es := by
  unfold lvN rawLv
  have : (byKey es).length = es.length := by
    unfold byKey
    rw [List.length_mergeSort]
  rw [← this, List.take_length]
  rfl
theorem in_small {z : Pe → Int × Int} {done m : List Pe} {st : List (List Pe) × List Int} (h : LvOk z done st) (hm : m ∈ st.1) : m.length ≤ done.length := by
  rw [← h.perm.length_eq]
  exact (List.sublist_flatten_of_mem hm).length_le
theorem ixN_nat {n k : Nat} (h : k < n) : ixN n (k : Int) = some k := by
  unfold ixN
  rw [if_pos (by omega), if_pos (by omega), Int.toNat_natCast]
def spLevels (Tl : List (Addr × Str)) (K : PySem.W.Frag) : Sp := fun vs H Q _ => ∃ (t : Addr) (es : List Pe), vs = [.ref t] ∧ SqL K H t (es.map pv_) ∧ PeAt K H es ∧ es.length ≤ 1600 ∧ Tabs Tl H ∧
  ∀ H' q ls, ExtN H H' → Tabs Tl H' → NewF H q → H' q = some (.lst (ls.map V.ref)) → At2 (LsAt H') ls (levelsZ (fun e : Pe => e.2) es) → (∀ l ∈ ls, NewF H l ∧ l ≠ q) → Q (.ref q) H'
theorem seqL_ext {K : PySem.W.Frag} {H H1 : Hp} {a : Addr} {xs : List V} (h : SqL K H a xs) (s : ExtN H H1) : SqL K H1 a xs := by
  rcases h with (z | ⟨o, z⟩) | z
  · exact .inl (.inl (s _ _ z (fun ps => nofun)))
  · exact .inl (.inr ⟨o, s _ _ z (fun ps => nofun)⟩)
  · exact .inr z
theorem ok_levels (T : Txt w K mg) (TB_levels_of : TabB base mg T.cc_levels_of (tabOf K T.cc_levels_of)) : FnOk P w K mg base CX0 3 T.a_levels_of T.d_levels_of ["pairs"] (spLevels (tabsT T) K) := by
  refine okC T.F_levels_of T.cd_levels_of sc_levels_of (fun vs H Q E h => ?_) (fun A outer s H vs Q E hr h => ?_)
  · obtain ⟨t, es, rfl, _⟩ := h
    rfl
  · obtain ⟨t, es, rfl, hL, hP, le, tabs, k⟩ := h
    have hr_lam : Room (0 + 2) _ := hr
    refine ⟨_, (pss_cons (ps_set (i := 1) sc_levels_of.nd rfl (by first | exact Or.inl rfl | exact Or.inr rfl) (pe_lst pa_nil))
  (pss_cons (ps_set (i := 2) sc_levels_of.nd rfl (by first | exact Or.inl rfl | exact Or.inr rfl) (pe_lst pa_nil))
  (pss_cons (ps_for PassesOwn.never rfl (k_piL K (pe_sortP K (by rfl) T.z_sorted TB_levels_of rfl (tab_in_levels_of T) (tab_un_levels_of T) hr_lam (pv 0))) (pg_name (i := 3) sc_levels_of.nd rfl (by first | exact Or.inl rfl | exact Or.inr rfl)) (pss_cons (ps_set (i := 4) sc_levels_of.nd rfl (by first | exact Or.inl rfl | exact Or.inr rfl) pe_int)
  (C8.pss_cut (ps_while PassesOwn.never (PW.pt (pw_and (pt_cmpR op_lt (pv 4) (pe_callB (k_len K) (by rfl) T.z_len (by decide +kernel) (pa_cons (pv 1) pa_nil)) (nomark _)) (pw_and1 (pt_cmpR op_lt (pe_ix (kx_list K) (pv 2) (pv 4) (fun _ _ => rfl)) (pe_ix (kx_tup K) (pv 3) pe_int (fun _ _ => rfl)) (nomark _))))) (pss_one (ps_aug (i := 4) sc_levels_of.nd rfl (by first | exact Or.inl rfl | exact Or.inr rfl) pe_int ip_add)))
  (C8.pss_cut (ps_if (pt_cmpR op_eq (pv 4) (pe_callB (k_len K) (by rfl) T.z_len (by decide +kernel) (pa_cons (pv 1) pa_nil)) (nomark _)) (pss_cons (ps_expr (pe_bm PySem.F.plainAttrs_list PySem.F.slot_list_append PySem.F.type_list_append mt_append (pv 1) (pa_cons (pe_lst pa_nil) pa_nil)))
  (pss_one (ps_expr (pe_bm PySem.F.plainAttrs_list PySem.F.slot_list_append PySem.F.type_list_append mt_append (pv 2) (pa_cons (pe_ix (kx_tup K) (pv 3) pe_int (fun _ _ => rfl)) pa_nil))))) pss_nil)
  (pss_cons (ps_expr (pe_bm PySem.F.plainAttrs_list PySem.F.slot_list_append PySem.F.type_list_append mt_append (pe_ix (kx_list K) (pv 1) (pv 4) (fun _ _ => rfl)) (pa_cons (pv 3) pa_nil)))
  (pss_one (ps_asg (pe_ix (kx_tup K) (pv 3) pe_int (fun _ _ => rfl)) (pg_sub (pv 2) (pv 4) set_list))))))))
  (pss_one (ps_ret (pe_lc (own := [("crowd", 5)]) rfl sc_levels_of.nd (k_piL K (pv 1)) (blkOk_by (own := [("crowd", 5)]) (N := ["pairs", "levels", "lowest", "pair", "level", "crowd"]) (sc := defScope s_levels_of) (by decide +kernel)) (fun _ _ _ _ _ => (pg_name (i := 5) sc_levels_of.nd rfl (by first | exact Or.inl rfl | exact Or.inr rfl))) (fun _ _ _ _ _ => pts_nil) (fun _ _ _ _ _ => (pe_callB (k_sortPr K hr) (by rfl) T.z_sorted (by decide +kernel) (pa_cons (pv 5) pa_nil))))))))), ?_⟩
    refine ⟨(by show 0 ≤ sizeLine; decide), fun D hD => ?_⟩
    generalize hX : upd H D _ = H1
    obtain ⟨S1, f1⟩ := alloc hD hX
    clear hX
    refine ⟨(by show 0 ≤ sizeLine; decide), fun W hW => ?_⟩
    generalize hX : upd H1 W _ = H2
    obtain ⟨S2, f2⟩ := alloc hW hX
    clear hX
    have dw : D ≠ W := ne_of_none f1 hW
    have nD : NewF H D := .of hD
    have nW : NewF H W := .of (S1.free hW)
    refine ⟨_, rfl, t, es, rfl, same_seqL (S1.trans S2) hL, hP.same (S1.trans S2), (tabs.ext S1).ext S2, fun H3 ext3 tab3 l hl => ?_⟩
    generalize hX : upd H3 l _ = H4
    obtain ⟨S4, f4⟩ := alloc hl hX
    clear hX
    have ext4 : ExtN H H4 := ((ExtN.of (S1.trans S2)).trans ext3).trans (ExtN.of S4)
    have eD4 : H4 D = some (.lst []) := S4 _ _ (ext3 _ _ (S2 _ _ f1) (fun ps => nofun))
    have eW4 : H4 W = some (.lst []) := S4 _ _ (ext3 _ _ f2 (fun ps => nofun))
    have lD : l ≠ D := Ne.symm (ne_of_none (ext3 _ _ (S2 _ _ f1) (fun ps => nofun)) hl)
    have lW : l ≠ W := Ne.symm (ne_of_none (ext3 _ _ f2 (fun ps => nofun)) hl)
    have lk : (byKey es).length = es.length := by
      unfold byKey
      rw [List.length_mergeSort]
    have inK : ∀ e ∈ byKey es, e ∈ es := fun e he => (List.mergeSort_perm es _).mem_iff.mp he
    refine ⟨l, rfl, ⟨_, SqL.of f4⟩, ?_⟩
    refine for_it walk_list (fun i σ H' => ∃ (ls : List Addr) (x3 x4 : Option V), σ = [some (.ref t), some (.ref D), some (.ref W), x3, x4, none] ∧ LvRun (tabsT T) H H' D W ls (lvN es i) ∧ H' l = some (.lst ((byKey es).map pv_)) ∧ ∀ a ∈ ls, a ≠ l)
      ⟨[], none, none, rfl, ⟨ext4, tab3.ext S4, eD4, eW4, .nil, .nil, (fun _ z => nomatch z)⟩, f4, (fun _ z => nomatch z)⟩ (fun i σ H' _ ⟨_, _, _, _, _, e, _⟩ => SqL.of e) ?_ ?_
    · rintro i v σ _ H5 hi ⟨ls, x3, x4, rfl, R5, e5, nl5⟩ ⟨rfl, hv⟩
      rw [List.length_map] at hi
      obtain ⟨e, he, rfl⟩ := map_get hv
      have pe5 : PrAt K H5 e.1 e.2 := PeAt.ext hP R5.ext e (inK e (List.mem_of_getElem? he))
      obtain ⟨ln1, ln2⟩ := lvN_len es i
      have okI := lvN_ok es i
      rw [lvN_succ he]
      generalize lvN es i = st at *
      have lls := R5.lv.len
      have kle := lvAt_le st.2 e.2.2
      refine ⟨fun σ' H' => σ' = [some (.ref t), some (.ref D), some (.ref W), some (pv_ e), some (.int ((lvAt st.2 e.2.2 : Nat) : Int)), none] ∧ H' = H5, ?_, ?_⟩
      · refine ⟨fun m σ H' => ∃ kk : Nat, m = st.1.length - kk ∧ kk ≤ lvAt st.2 e.2.2 ∧ σ = [some (.ref t), some (.ref D), some (.ref W), some (pv_ e), some (.int (kk : Int)), none] ∧ H' = H5,
          ⟨_, 0, rfl, Nat.zero_le _, rfl, rfl⟩, ?_⟩
        rintro m σ H6 ⟨kk, rfl, kl, rfl, rfl⟩
        refine ⟨_, rfl, _, rfl, D, _, rfl, .inl (SqL.of R5.eD), _, _, rfl, rfl, _, rfl, ?_⟩
        show if decide ((kk : Int) < ((ls.map V.ref).length : Int)) = true then _ else _
        rw [List.length_map, lls]
        refine ite2 (fun y => ?_) (fun y => ?_)
        · have y : kk < st.1.length := by
            have := of_decide_eq_true y
            omega
          have hv : st.2[kk]? = some st.2[kk] := List.getElem?_eq_getElem (by omega)
          have at_ : atI (st.2.map V.int) (kk : Int) = some (.int st.2[kk]) := atI_nat (by rw [List.getElem?_map, hv]; rfl)
          refine ⟨_, rfl, _, rfl, W, _, _, _, rfl, rfl, SqL.of R5.eW, at_, _, rfl, e.1, _, 1, _, rfl, rfl, pe5, rfl, _, _, rfl, rfl, _, rfl, ite2 (fun y2 => ?_) (fun y2 => ?_)⟩
          · refine ⟨fun σ' H' => σ' = [some (.ref t), some (.ref D), some (.ref W), some (pv_ e), some (.int ((kk + 1 : Nat) : Int)), none] ∧ H' = H6, fun σ' H' ⟨q1, q2⟩ => ⟨st.1.length - (kk + 1), by omega, kk + 1, rfl, lvAt_step kl hv (of_decide_eq_true y2), q1, q2⟩, ?_⟩
            exact ⟨_, rfl, _, _, rfl, rfl, rfl, rfl⟩
          · exact ⟨by rw [lvAt_stop kl hv (fun q => y2 (decide_eq_true q))], rfl⟩
        · have y : st.2.length ≤ kk := by
            rcases Nat.lt_or_ge kk st.1.length with c | c
            · exact absurd (decide_eq_true (by omega)) y
            · omega
          exact ⟨by rw [lvAt_end kl y], rfl⟩
      rintro σ H6 ⟨rfl, rfl⟩
      have small : ∀ {n : Nat}, n ≤ 1600 → n < sizeLine := fun {n} h => Nat.lt_of_le_of_lt h (by decide)
      refine ⟨fun σ' H' => ∃ (ls2 : List Addr) (st2 : List (List Pe) × List Int) (m : List Pe), σ' = [some (.ref t), some (.ref D), some (.ref W), some (pv_ e), some (.int ((lvAt st.2 e.2.2 : Nat) : Int)), none] ∧ LvRun (tabsT T) H H' D W ls2 st2 ∧ H' l = some (.lst ((byKey es).map pv_)) ∧ (∀ a ∈ ls2, a ≠ l) ∧
          st2.1[lvAt st.2 e.2.2]? = some m ∧ m.length ≤ 1600 ∧ st2.1.length = st2.2.length ∧ putLv (fun e : Pe => e.2) st e = (st2.1.set (lvAt st.2 e.2.2) (m ++ [e]), st2.2.set (lvAt st.2 e.2.2) e.2.2), ?_, ?_⟩
      · refine ⟨_, rfl, _, rfl, D, _, rfl, .inl (SqL.of R5.eD), rfl, _, rfl, ?_⟩
        show if decide (V.int ((lvAt st.2 e.2.2 : Nat) : Int) = V.int ((ls.map V.ref).length : Int)) = true then _ else _
        rw [List.length_map, lls]
        refine ite2 (fun y => ?_) (fun y => ?_)
        · have y : lvAt st.2 e.2.2 = st.1.length := by
            have := of_decide_eq_true y
            injection this with this
            omega
          refine ⟨_, rfl, .inl ⟨rfl, _, SqL.of R5.eD⟩, (by show 0 ≤ sizeLine; decide), fun q hq => ?_⟩
          have qD : D ≠ q := ne_of_none R5.eD hq
          have qW : W ≠ q := ne_of_none R5.eW hq
          have ql : l ≠ q := ne_of_none e5 hq
          refine ⟨D, _, _, rfl, rfl, (upd_ne qD).trans R5.eD, (by rw [List.length_map, lls]; exact small (by omega)), ?_⟩
          have eW1 : upd (upd H6 q (.lst [])) D (.lst (ls.map V.ref ++ [V.ref q])) W = some (.lst (st.2.map V.int)) := by
            rw [upd_ne (Ne.symm dw), upd_ne qW]
            exact R5.eW
          have R6 := R5.level (r := e.2.2) hq dw nD nW
          have pe6 : PrAt K (upd (upd H6 q (.lst [])) D (.lst (ls.map V.ref ++ [V.ref q]))) e.1 e.2 := PeAt.ext hP (ext_own (ext_own R5.ext (.ext R5.ext (.of hq))) nD) e (inK e (List.mem_of_getElem? he))
          refine ⟨_, rfl, .inl ⟨rfl, _, SqL.of eW1⟩, _, rfl, e.1, _, 1, _, rfl, rfl, pe6, rfl, W, _, _, rfl, rfl, eW1, (by rw [List.length_map, ← ln1]; exact small (by omega)), ?_⟩
          refine ⟨ls ++ [q], (st.1 ++ [[]], st.2 ++ [e.2.2]), [], rfl, R6, ?_, fun a ha => ?_, ?_, Nat.zero_le _, ?_, ?_⟩
          · rw [upd_ne lW, upd_ne lD, upd_ne ql]
            exact e5
          · rcases List.mem_append.mp ha with z | z
            · exact nl5 a z
            · rw [List.mem_singleton.mp z]
              exact Ne.symm ql
          · show (st.1 ++ [[]])[lvAt st.2 e.2.2]? = some []
            rw [y, List.getElem?_append_right (Nat.le_refl _), Nat.sub_self]
            rfl
          · show (st.1 ++ [[]]).length = (st.2 ++ [e.2.2]).length
            rw [List.length_append, List.length_append, ln1]
            rfl
          · unfold putLv
            rw [if_pos y, y, ln1]
            congr 1
            · rw [← ln1, List.set_append_right _ _ (Nat.le_refl _), Nat.sub_self]
              rfl
            · rw [List.set_append_right _ _ (Nat.le_refl _), Nat.sub_self]
              rfl
        · have y : lvAt st.2 e.2.2 ≠ st.1.length := fun z => y (decide_eq_true (by rw [z]))
          have lt : lvAt st.2 e.2.2 < st.1.length := by omega
          have hm : st.1[lvAt st.2 e.2.2]? = some st.1[lvAt st.2 e.2.2] := List.getElem?_eq_getElem lt
          refine ⟨ls, st, st.1[lvAt st.2 e.2.2], rfl, R5, e5, nl5, hm, ?_, ln1, ?_⟩
          · have q := in_small okI (List.mem_of_getElem? hm)
            rw [List.length_take] at q
            omega
          · unfold putLv
            rw [if_neg y, hm]
            rfl
      rintro σ H7 ⟨ls2, st2, m, rfl, R7, e7, nl7, hm, lm, ln7, pq⟩
      have kl : lvAt st.2 e.2.2 < st2.1.length := (List.getElem?_eq_some_iff.mp hm).1
      obtain ⟨la, hla, ela⟩ := R7.lv.get hm
      have ela : H7 la = some (.lst (m.map pv_)) := ela
      have at_ : atI (ls2.map V.ref) ((lvAt st.2 e.2.2 : Nat) : Int) = some (.ref la) := atI_nat (by rw [List.getElem?_map, hla]; rfl)
      obtain ⟨nla, laD, laW⟩ := R7.new la (List.mem_of_getElem? hla)
      refine ⟨_, rfl, _, rfl, D, _, _, _, rfl, rfl, SqL.of R7.eD, at_, .inl ⟨rfl, _, SqL.of ela⟩, _, rfl, la, _, _, rfl, rfl, ela, (by rw [List.length_map]; exact small lm), ?_⟩
      have pe8 : PrAt K (upd H7 la (.lst (m.map pv_ ++ [pv_ e]))) e.1 e.2 := PeAt.ext hP (ext_own R7.ext nla) e (inK e (List.mem_of_getElem? he))
      have eW8 : upd H7 la (.lst (m.map pv_ ++ [pv_ e])) W = some (.lst (st2.2.map V.int)) := (upd_ne (Ne.symm laW)).trans R7.eW
      have R8 := R7.put (e := e) (r := e.2.2) dw nW hla hm
      rw [← pq] at R8
      refine ⟨_, rfl, e.1, _, 1, _, rfl, rfl, pe8, rfl, _, rfl, _, rfl, W, _, _, _, rfl, rfl, eW8, ixN_nat (by rw [List.length_map]; omega), ?_⟩
      refine ⟨ls2, _, _, rfl, R8, ?_, nl7⟩
      rw [upd_ne lW, upd_ne (Ne.symm (nl7 la (List.mem_of_getElem? hla)))]
      exact e7
    · rintro σ H5 ⟨ls, x3, x4, rfl, R5, e5, nl5⟩
      rw [List.length_map, lk, lvN_all] at R5
      generalize hst : rawLv (fun e : Pe => e.2) es = st at R5
      have okA : LvOk (fun e : Pe => e.2) (es.mergeSort fun p q => kLe p.2 q.2) st := by
        rw [← hst]
        exact raw_ok (fun e : Pe => e.2) es
      have lls := R5.lv.len
      have inE : ∀ m ∈ st.1, m.length ≤ 1600 ∧ ∀ e ∈ m, e ∈ es := fun m hm => by
        have q := in_small okA hm
        rw [List.length_mergeSort] at q
        exact ⟨by omega, fun e he => (List.mergeSort_perm es _).mem_iff.mp (okA.perm.mem_iff.mp (List.mem_flatten.mpr ⟨m, hm, he⟩))⟩
      have lst : st.1.length ≤ 1600 := by
        have q := (lvN_len es es.length).2
        rw [lvN_all, hst] at q
        omega
      refine ⟨_, rfl, D, rfl, ⟨_, SqL.of R5.eD⟩, fun D2 hD2 => ?_⟩
      refine lc_it walk_list (fun j H' => Same H5 H' ∧ ∃ ls2 : List Addr, H' D2 = some (.lst (ls2.map V.ref)) ∧ At2 (LsAt H') ls2 ((st.1.take j).map byPr) ∧ ∀ a ∈ ls2, NewF H a ∧ a ≠ D2)
        ⟨same_new (Same.refl _) hD2, [], upd_same, by rw [List.take_zero]; exact .nil, (fun _ z => nomatch z)⟩ (fun j H' _ q => SqL.of (q.1 _ _ R5.eD)) ?_ ?_
      · rintro j v _ H6 hj ⟨S6, ls2, e6, a6, n6⟩ ⟨rfl, hv⟩
        obtain ⟨la, hla, rfl⟩ := map_get hv
        obtain ⟨m, hm, ela⟩ := R5.lv.get' hla
        have ela6 : H6 la = some (.lst (m.map pv_)) := S6 _ _ ela
        have mm := inE m (List.mem_of_getElem? hm)
        have jl : j < st.1.length := (List.getElem?_eq_some_iff.mp hm).1
        refine ⟨rfl, _, rfl, la, m, rfl, SqL.of ela6, fun e he => PeAt.ext hP (R5.ext.trans (ExtN.of S6)) e (mm.2 e he), fun p hp => ?_⟩
        generalize hX : upd H6 p _ = H7
        obtain ⟨S7, f7⟩ := alloc hp hX
        clear hX
        have e7 := S7 _ _ e6
        have l2 : ls2.length ≤ j := by
          rw [a6.len, List.length_map, List.length_take]
          omega
        have pD : p ≠ D2 := Ne.symm (ne_of_none e6 hp)
        refine ⟨_, e7, Nat.lt_of_le_of_lt (show (ls2.map V.ref).length ≤ 1600 by rw [List.length_map]; omega) (by decide), same_own (S6.trans S7) hD2, ls2 ++ [p], by rw [upd_same, List.map_append]; rfl, ?_, fun a ha => ?_⟩
        · rw [List.take_succ, hm, List.map_append]
          refine (at2_imp a6 fun a x ha q => ?_).snoc ?_
          · show _ = _
            rw [upd_ne (n6 a ha).2]
            exact S7 _ _ q
          · show _ = _
            rw [upd_ne pD]
            exact f7
        · rcases List.mem_append.mp ha with z | z
          · exact n6 a z
          · rw [List.mem_singleton.mp z]
            exact ⟨.ext (R5.ext.trans (ExtN.of S6)) (.of hp), pD⟩
      · rintro H6 ⟨S6, ls2, e6, a6, n6⟩
        rw [List.length_map, lls, List.take_length] at a6
        refine k H6 D2 ls2 (R5.ext.trans (ExtN.of S6)) (R5.tab.ext S6) (.ext R5.ext (.of hD2)) e6 ?_ n6
        unfold levelsZ
        rw [hst]
        exact a6
/-! ### levels, line by line -/
def lineOf (A : List Row) (e : Pe) : Str := match A[e.2.1.toNat]? with
  | some x => x.l
  | none => ""
/-- a pair whose bridge's row is there -/
def InA (A : List Row) (e : Pe) : Prop := ∃ (b : Nat) (x : Row), e.2.1 = (b : Int) ∧ A[b]? = some x
theorem lineOf_eq {A : List Row} {e : Pe} {b : Nat} {x : Row} (h : e.2.1 = (b : Int)) (hx : A[b]? = some x) : lineOf A e = x.l := by
  unfold lineOf
  rw [h, Int.toNat_natCast, hx]
/-- the lines so far, as a dict of lists -/
structure GrRun (H0 H : Hp) (d : Addr) (ls : List Addr) (gs : List (Str × List Pe)) : Prop where
  same : Same H0 H
  eD : H d = some (.dK (kvOf gs ls))
  lv : At2 (LsAt H) ls (gs.map (·.2))
  nd : ls.Nodup
  new : ∀ l ∈ ls, H0 l = none ∧ l ≠ d
theorem GrRun.more {H0 H : Hp} {d : Addr} {ls : List Addr} {gs : List (Str × List Pe)} {H1 : Hp} (h : GrRun H0 H d ls gs) (s : Same H H1) : GrRun H0 H1 d ls gs :=
  ⟨h.same.trans s, s _ _ h.eD, h.lv.imp fun _ _ q => s _ _ q, h.nd, h.new⟩
theorem GrRun.len {H0 H : Hp} {d : Addr} {ls : List Addr} {gs : List (Str × List Pe)} (h : GrRun H0 H d ls gs) : ls.length = gs.length := by
  have := h.lv.len
  rw [List.length_map] at this
  exact this
/-- a new line, with its first pair -/
theorem GrRun.first {H0 H : Hp} {d q : Addr} {ls : List Addr} {gs : List (Str × List Pe)} {k : Str} {e : Pe} (h : GrRun H0 H d ls gs) (hq : H q = none) (hd : H0 d = none) :
    GrRun H0 (upd (upd (upd H q (.lst [])) d (.dK (kvOf gs ls ++ [(.inr k, .ref q)]))) q (.lst ([] ++ [pv_ e]))) d (ls ++ [q]) (gs ++ [(k, [e])]) := by
  have qd : q ≠ d := Ne.symm (ne_of_none h.eD hq)
  have nq := h.same.free hq
  refine ⟨same_own (same_own (same_new h.same hq) hd) nq, ?_, ?_, ?_, ?_⟩
  · rw [upd_ne (Ne.symm qd), upd_same, kv_app gs ls _ _ h.len]
  · rw [List.map_append]
    refine (at2_imp h.lv fun l m hl e1 => ?_).snoc ?_
    · show _ = _
      have n1 := ne_of_none (show H l = some _ from e1) hq
      rw [upd_ne n1, upd_ne (h.new l hl).2, upd_ne n1]
      exact e1
    · show _ = _
      rw [upd_same]
      rfl
  · refine List.nodup_append.mpr ⟨h.nd, by simp, fun a ha b hb => ?_⟩
    rw [List.mem_singleton.mp hb]
    obtain ⟨i, hi⟩ := List.getElem?_of_mem ha
    obtain ⟨x, _, e1⟩ := h.lv.get' hi
    exact ne_of_none (show H a = some _ from e1) hq
  · intro l hl
    rcases List.mem_append.mp hl with z | z
    · exact h.new l z
    · rw [List.mem_singleton.mp z]
      exact ⟨nq, qd⟩
/-- a line's further pair -/
theorem GrRun.next {H0 H : Hp} {d l : Addr} {ls : List Addr} {gs : List (Str × List Pe)} {j : Nat} {k : Str} {m : List Pe} {e : Pe} (h : GrRun H0 H d ls gs) (hl : ls[j]? = some l) (hg : gs[j]? = some (k, m)) :
    H l = some (.lst (m.map pv_)) ∧ GrRun H0 (upd H l (.lst (m.map pv_ ++ [pv_ e]))) d ls (gs.set j (k, m ++ [e])) := by
  obtain ⟨n1, n2⟩ := h.new l (List.mem_of_getElem? hl)
  obtain ⟨m', hm', el⟩ := h.lv.get' hl
  rw [List.getElem?_map, hg] at hm'
  cases hm'
  refine ⟨el, same_own h.same n1, ?_, ?_, h.nd, h.new⟩
  · rw [upd_ne (Ne.symm n2), kv_set gs ls j k m _ hg]
    exact h.eD
  · rw [List.map_set]
    refine At2.of_zip (by rw [List.length_set]; exact h.lv.len) fun i a x ha hx => ?_
    show _ = _
    by_cases c : j = i
    · subst c
      rw [hl] at ha
      cases ha
      have lt : j < (gs.map (·.2)).length := by
        rw [List.length_map]
        exact (List.getElem?_eq_some_iff.mp hg).1
      rw [List.getElem?_set_self lt] at hx
      cases hx
      rw [upd_same, List.map_append]
      rfl
    · rw [List.getElem?_set_ne c] at hx
      have al : a ≠ l := fun z => by
        rw [z] at ha
        exact c (nodup_at h.nd hl ha)
      rw [upd_ne al]
      obtain ⟨x', hx', e1⟩ := h.lv.get' ha
      rw [hx] at hx'
      cases hx'
      exact e1
/-- levels at a: a list of lists -/
def LvsAt (H : Hp) (a : Addr) (Ls : List (List Pe)) : Prop := ∃ ls : List Addr, H a = some (.lst (ls.map V.ref)) ∧ At2 (LsAt H) ls Ls
theorem LvsAt.keep {H H1 : Hp} {a : Addr} {Ls : List (List Pe)} (h : LvsAt H a Ls) (s : ∀ b xs, H b = some (.lst xs) → H1 b = some (.lst xs)) : LvsAt H1 a Ls := by
  obtain ⟨ls, e, q⟩ := h
  exact ⟨ls, s _ _ e, q.imp fun _ _ z => s _ _ z⟩
/-- the same, made since H0 -/
def LvsF (H0 H : Hp) (a : Addr) (Ls : List (List Pe)) : Prop := ∃ ls : List Addr, NewF H0 a ∧ H a = some (.lst (ls.map V.ref)) ∧ At2 (fun l m => NewF H0 l ∧ LsAt H l m) ls Ls
theorem LvsF.keep {H0 H H1 : Hp} {a : Addr} {Ls : List (List Pe)} (h : LvsF H0 H a Ls) (s : ∀ b xs, NewF H0 b → H b = some (.lst xs) → H1 b = some (.lst xs)) : LvsF H0 H1 a Ls := by
  obtain ⟨ls, n, e, q⟩ := h
  exact ⟨ls, n, s _ _ n e, q.imp fun _ _ z => ⟨z.1, s _ _ z.1 z.2⟩⟩
theorem LvsF.at_ {H0 H : Hp} {a : Addr} {Ls : List (List Pe)} (h : LvsF H0 H a Ls) : LvsAt H a Ls := by
  obtain ⟨ls, _, e, q⟩ := h
  exact ⟨ls, e, q.imp fun _ _ z => z.2⟩
/-- the same, away from D -/
def LvsN (H0 : Hp) (D : Addr) (H : Hp) (a : Addr) (Ls : List (List Pe)) : Prop := ∃ ls : List Addr, (a ≠ D ∧ NewF H0 a) ∧ H a = some (.lst (ls.map V.ref)) ∧ At2 (fun l m => (l ≠ D ∧ NewF H0 l) ∧ LsAt H l m) ls Ls
theorem LvsN.keep {H0 : Hp} {D : Addr} {H H1 : Hp} {a : Addr} {Ls : List (List Pe)} (h : LvsN H0 D H a Ls) (s : ∀ b xs, b ≠ D → H b = some (.lst xs) → H1 b = some (.lst xs)) : LvsN H0 D H1 a Ls := by
  obtain ⟨ls, n, e, q⟩ := h
  exact ⟨ls, n, s _ _ n.1 e, q.imp fun _ _ z => ⟨z.1, s _ _ z.1.1 z.2⟩⟩
theorem LvsN.at_ {H0 : Hp} {D : Addr} {H : Hp} {a : Addr} {Ls : List (List Pe)} (h : LvsN H0 D H a Ls) : LvsF H0 H a Ls := by
  obtain ⟨ls, n, e, q⟩ := h
  exact ⟨ls, n.2, e, q.imp fun _ _ z => ⟨z.1.2, z.2⟩⟩
theorem tabs_frz {T : List (Addr × Str)} {H : Hp} {d : Addr} {od : Obj} {u o : HO} (t : Tabs T H) (h : H d = some (.frz od u)) : Tabs T (upd H d o) := fun r hr => by
  obtain ⟨ps, e1, e2, e3⟩ := t r hr
  refine ⟨ps, (upd_ne (fun z => by rw [z, h] at e1; cases e1)).trans e1, e2, fun pos cv hc => ?_⟩
  obtain ⟨c, q1, q2⟩ := e3 pos cv hc
  exact ⟨c, q1, (upd_ne (fun z => by rw [z, h] at q2; cases q2)).trans q2⟩
def grN (A : List Row) (es : List Pe) (i : Nat) : List (Str × List Pe) := groupsZ (lineOf A) (es.take i)
theorem grN_succ {A : List Row} {es : List Pe} {i : Nat} {e : Pe} (h : es[i]? = some e) : grN A es (i + 1) = addG (lineOf A e) e (grN A es i) := by
  unfold grN groupsZ
  rw [List.take_succ, h, List.foldl_append]
  rfl
theorem gr_small {A : List Row} {es : List Pe} {i : Nat} {g : Str × List Pe} (h : g ∈ grN A es i) : g.2.length ≤ es.length := by
  have q := groups_ok (lineOf A) (es.take i)
  have l1 : g.2.length ≤ ((grN A es i).map (·.2)).flatten.length := (List.sublist_flatten_of_mem (List.mem_map.mpr ⟨g, h, rfl⟩)).length_le
  rw [show (grN A es i) = groupsZ (lineOf A) (es.take i) from rfl, q.perm.length_eq, List.length_take] at l1
  omega
theorem gr_many {A : List Row} {es : List Pe} (i : Nat) : (grN A es i).length ≤ i := by
  induction i with
  | zero => exact Nat.le_refl _
  | succ i ih =>
    cases h : es[i]? with
    | none =>
      have : grN A es (i + 1) = grN A es i := by
        unfold grN
        rw [List.take_succ, h]
        simp
      rw [this]
      omega
    | some e =>
      rw [grN_succ h]
      rcases addG_cases (lineOf A e) e (grN A es i) with ⟨_, q⟩ | ⟨j, m, _, q⟩
      · rw [q, List.length_append]
        show _ + 1 ≤ _
        omega
      · rw [q, List.length_set]
        omega
def spByLine (Tl : List (Addr × Str)) (K : PySem.W.Frag) : Sp := fun vs H Q _ => ∃ (ta t : Addr) (A : List Row) (es : List Pe), vs = [.ref ta, .ref t] ∧ LogAt K H ta A ∧ SqL K H t (es.map pv_) ∧ PeAt K H es ∧ (∀ e ∈ es, InA A e) ∧ es.length ≤ 1600 ∧ Tabs Tl H ∧
  ∀ H' q ls, ExtN H H' → Tabs Tl H' → NewF H q → H' q = some (.lst (ls.map V.ref)) → At2 (LvsF H H') ls ((groupsZ (lineOf A) es).map fun g => levelsZ (fun e : Pe => e.2) g.2) → Q (.ref q) H'
theorem ok_by_line (T : Txt w K mg) (TB_levels_of : TabB base mg T.cc_levels_of (tabOf K T.cc_levels_of)) : FnOk P w K mg base CX0 4 T.a_levels_by_line T.d_levels_by_line ["bridge", "pairs"] (spByLine (tabsT T) K) := by
  have G_levels_of := ok_levels (P := P) T TB_levels_of
  refine T.F_levels_by_line.ok sc_levels_by_line (fun vs H Q E h => ?_) (fun cdv A' outer s H vs Q E hr h => ?_)
  · obtain ⟨ta, t, A, es, rfl, _⟩ := h
    rfl
  · obtain ⟨ta, t, A, es, rfl, hA, hL, hP, hI, le, tabs, k⟩ := h
    have hr_levels_of := hr
    refine ⟨_, (pss_cons (ps_set (i := 2) sc_levels_by_line.nd rfl (by first | exact Or.inl rfl | exact Or.inr rfl) pe_dnewK)
  (pss_cons (ps_for PassesOwn.never rfl (k_piL K (pv 1)) (pg_name (i := 3) sc_levels_by_line.nd rfl (by first | exact Or.inl rfl | exact Or.inr rfl)) (pss_one (ps_expr (pe_bm PySem.F.plainAttrs_list PySem.F.slot_list_append PySem.F.type_list_append mt_append (pe_dsetd (pv 2) (pe_ix (kx_tup K) (pe_ix (kx_tup K) (pv 0) (pe_ix (kx_tup K) (pv 3) pe_int (fun _ _ => rfl)) (fun _ _ => rfl)) pe_int (fun _ _ => rfl)) (pe_lst pa_nil) (by constructor <;> rfl)) (pa_cons (pv 3) pa_nil)))))
  (pss_one (ps_ret (pe_lock (pe_lc (own := [("on_line", 4)]) rfl sc_levels_by_line.nd (pi_values (pv 2)) (blkOk_by (own := [("on_line", 4)]) (N := ["bridge", "pairs", "lines", "pair", "on_line"]) (sc := defScope s_levels_by_line) (by decide +kernel)) (fun _ _ _ _ _ => (pg_name (i := 4) sc_levels_by_line.nd rfl (by first | exact Or.inl rfl | exact Or.inr rfl))) (fun _ _ _ _ _ => pts_nil) (fun _ _ _ _ _ => (pe_call G_levels_of hr_levels_of (by rfl) T.g_levels_of T.F_levels_of.kp T.b_levels_of .nil pass0 (pa_cons (pv 4) pa_nil))))))))), ?_⟩
    intro d hd
    generalize hX : upd H d _ = H1
    obtain ⟨S1, f1⟩ := alloc hd hX
    clear hX
    refine ⟨_, rfl, t, rfl, ⟨_, same_seqL S1 hL⟩, ?_⟩
    refine for_it walk_list (fun i σ H' => ∃ (ls : List Addr) (x3 : Option V), σ = [some (.ref ta), some (.ref t), some (.ref d), x3, none] ∧ GrRun H H' d ls (grN A es i))
      ⟨[], none, rfl, S1, f1, .nil, .nil, (fun _ z => nomatch z)⟩ (fun i σ H' _ ⟨_, _, _, R⟩ => same_seqL R.same hL) ?_ ?_
    · rintro i v σ _ H2 hi ⟨ls, x3, rfl, R⟩ ⟨rfl, hv⟩
      obtain ⟨e, he, rfl⟩ := map_get hv
      obtain ⟨b, x, eb, hx⟩ := hI e (List.mem_of_getElem? he)
      have pe2 : PrAt K H2 e.1 e.2 := (hP e (List.mem_of_getElem? he)).same R.same
      obtain ⟨as, hTa, hRa⟩ := hA.same R.same
      obtain ⟨a1, ha1, rowA⟩ := hRa.get hx
      have ga : atI (as.map V.ref) (b : Int) = some (.ref a1) := atI_nat (by rw [List.getElem?_map, ha1]; rfl)
      rw [grN_succ he, lineOf_eq eb hx]
      have ga : atI (as.map V.ref) e.2.1 = some (.ref a1) := by
        rw [eb]
        exact ga
      have many := gr_many (A := A) (es := es) i
      have smallG := fun g (h : g ∈ grN A es i) => gr_small h
      generalize grN A es i = gs at *
      rw [List.length_map] at hi
      have small : ∀ {n : Nat}, n ≤ 1600 → n < sizeLine := fun {n} h => Nat.lt_of_le_of_lt h (by decide)
      refine ⟨_, rfl, d, rfl, .inl ⟨_, .inl R.eD⟩, _, rfl, _, rfl, e.1, _, 0, _, rfl, rfl, pe2, rfl, ta, _, _, _, rfl, rfl, hTa, ga, a1, _, 1, _, rfl, rfl, rowA, rfl, (by show 0 ≤ sizeLine; decide), fun q hq => ?_⟩
      have qd : d ≠ q := ne_of_none R.eD hq
      have lk := kv_len gs ls R.len
      refine ⟨_, .inr x.l, (upd_ne qd).trans R.eD, rfl, small (by omega), ?_, ?_⟩
      · intro v hv
        rcases kv_val x.l e gs ls R.len with ⟨h1, _, _⟩ | ⟨j, l, m, h1, h2, h3, h4⟩
        · rw [h1] at hv
          cases hv
        · rw [h3] at hv
          cases hv
          have Rm := R.more (same_new (o := .lst []) (Same.refl _) hq)
          obtain ⟨el, Rn⟩ := Rm.next (e := e) h1 h2
          rw [← h4] at Rn
          exact ⟨.inl ⟨rfl, _, SqL.of el⟩, _, rfl, l, _, _, rfl, rfl, el, (by rw [List.length_map]; exact small (Nat.le_trans (smallG _ (List.mem_of_getElem? h2)) le)), ls, _, rfl, Rn⟩
      · intro hv
        rcases kv_val x.l e gs ls R.len with ⟨_, h2, h3⟩ | ⟨j, l, m, h1, h2, h3, h4⟩
        · have Rf := R.first (k := x.l) (e := e) hq hd
          rw [h2, h3]
          have el : upd (upd H2 q (.lst [])) d (.dK (kvOf gs ls ++ [(.inr x.l, .ref q)])) q = some (.lst []) := by
            rw [upd_ne (Ne.symm qd), upd_same]
          exact ⟨.inl ⟨rfl, _, SqL.of el⟩, _, rfl, q, _, _, rfl, rfl, el, small (Nat.zero_le _), ls ++ [q], _, rfl, Rf⟩
        · rw [h3] at hv
          cases hv
    · rintro σ H2 ⟨ls, x3, rfl, R⟩
      have fin : grN A es (es.map pv_).length = groupsZ (lineOf A) es := by
        unfold grN
        rw [List.length_map, List.take_length]
      rw [fin] at R
      have gok := groups_ok (lineOf A) es
      have inE : ∀ g ∈ groupsZ (lineOf A) es, g.2.length ≤ 1600 ∧ ∀ e ∈ g.2, e ∈ es := fun g hg => by
        refine ⟨?_, fun e he => gok.perm.mem_iff.mp (List.mem_flatten.mpr ⟨g.2, List.mem_map.mpr ⟨g, hg, rfl⟩, he⟩)⟩
        have l1 : g.2.length ≤ ((groupsZ (lineOf A) es).map (·.2)).flatten.length := (List.sublist_flatten_of_mem (List.mem_map.mpr ⟨g, hg, rfl⟩)).length_le
        rw [gok.perm.length_eq] at l1
        omega
      have gmany : (groupsZ (lineOf A) es).length ≤ 1600 := by
        have q := gr_many (A := A) (es := es) es.length
        rw [show grN A es es.length = groupsZ (lineOf A) es by unfold grN; rw [List.take_length]] at q
        omega
      generalize groupsZ (lineOf A) es = gs at *
      have lk := kv_len gs ls R.len
      refine ⟨d, _, R.eD, trivial, fun od => ?_⟩
      generalize hX : upd H2 d (.frz od (.dK (kvOf gs ls))) = H3
      have e3 : H3 d = some (.frz od (.dK (kvOf gs ls))) := by
        rw [← hX]
        exact upd_same
      have o3 : ∀ b o, b ≠ d → H2 b = some o → H3 b = some o := fun b o n e => by
        rw [← hX, upd_ne n]
        exact e
      clear hX
      have old : ∀ b o, H b = some o → H3 b = some o := fun b o e => o3 b o (ne_of_none e hd) (R.same _ _ e)
      have tab3 : Tabs (tabsT T) H3 := tabs.ext old
      refine ⟨_, rfl, d, od, _, rfl, e3, fun D hD => ?_⟩
      have nD : NewF H3 D := .of hD
      refine lc_it walk_values (fun j H' => ExtN H3 H' ∧ Tabs (tabsT T) H' ∧ ∃ ls2 : List Addr, H' D = some (.lst (ls2.map V.ref)) ∧ At2 (LvsN H D H') ls2 ((gs.take j).map fun g => levelsZ (fun e : Pe => e.2) g.2))
        ⟨ExtN.of (same_new (Same.refl _) hD), tabs_new tab3 hD, [], upd_same, by rw [List.take_zero]; exact .nil⟩ (fun j H' _ q => q.1 _ _ e3 (fun _ => nofun)) ?_ ?_
      · rintro j v _ H4 hj ⟨x4, t4, ls2, e4, a4⟩ ⟨rfl, kk, hv⟩
        obtain ⟨l, g, hl, hg, rfl⟩ := kv_at gs ls j kk v hv
        obtain ⟨m, hm, el⟩ := R.lv.get' hl
        rw [List.getElem?_map, hg] at hm
        cases hm
        have el : H2 l = some (.lst (g.2.map pv_)) := el
        have el4 : H4 l = some (.lst (g.2.map pv_)) := x4 _ _ (o3 _ _ (R.new l (List.mem_of_getElem? hl)).2 el) (fun _ => nofun)
        have gE := inE g (List.mem_of_getElem? hg)
        have jl : j < gs.length := (List.getElem?_eq_some_iff.mp hg).1
        have l2 : ls2.length ≤ j := by
          rw [a4.len, List.length_map, List.length_take]
          omega
        refine ⟨rfl, _, rfl, l, g.2, rfl, SqL.of el4, fun e he => PeAt.ext hP ((ExtN.of old).trans x4) e (gE.2 e he), gE.1, t4, fun H5 q lsq x5 t5 nq eq aq nls => ?_⟩
        have eD5 : H5 D = some (.lst (ls2.map V.ref)) := x5 _ _ e4 (fun _ => nofun)
        have Dq : D ≠ q := nq.ne e4 (fun _ => nofun)
        refine ⟨_, eD5, Nat.lt_of_le_of_lt (show (ls2.map V.ref).length ≤ 1600 by rw [List.length_map]; omega) (by decide), ext_own (x4.trans x5) nD, tabs_set t5 eD5, ls2 ++ [q], by rw [upd_same, List.map_append]; rfl, ?_⟩
        rw [List.take_succ, hg, List.map_append]
        refine (at2_imp a4 fun a Ls _ q1 => ?_).snoc ?_
        · exact q1.keep (fun b xs n e => by
            rw [upd_ne n]
            exact x5 _ _ e (fun _ => nofun))
        · have f4 : ExtN H H4 := (ExtN.of old).trans x4
          exact ⟨lsq, ⟨Ne.symm Dq, .ext f4 nq⟩, (upd_ne (Ne.symm Dq)).trans eq, at2_imp aq fun a m ha q1 => by
            have n := (nls a ha).1.ne e4 (fun _ => nofun)
            exact ⟨⟨Ne.symm n, .ext f4 (nls a ha).1⟩, (upd_ne (Ne.symm n)).trans q1⟩⟩
      · rintro H4 ⟨x4, t4, ls2, e4, a4⟩
        rw [lk, List.take_length] at a4
        have ed4 : H4 d = some (.frz od (.dK (kvOf gs ls))) := x4 _ _ e3 (fun _ => nofun)
        refine ⟨ed4, ?_⟩
        have kp : ∀ b xs, H4 b = some (.lst xs) → upd H4 d (.dK (kvOf gs ls)) b = some (.lst xs) := fun b xs e => by
          rw [upd_ne (fun z => by rw [z, ed4] at e; cases e)]
          exact e
        refine k _ D ls2 (fun b o e n => ?_) (tabs_frz t4 ed4) (.of ?_) (kp _ _ e4) (a4.imp fun a Ls q => q.at_.keep fun b xs _ e => kp b xs e)
        · rw [upd_ne (ne_of_none e hd)]
          exact x4 _ _ (old _ _ e) n
        · cases z : H D with
          | none => rfl
          | some o =>
            rw [old _ _ z] at hD
            cases hD
/-! ### a greatest joining -/
def chainsE (A : List Row) (es : List Pe) : List Pe := ((groupsZ (lineOf A) es).map fun g => chainZ (fun e : Pe => e.2) (levelsZ (fun e : Pe => e.2) g.2)).flatten
def greatE (A : List Row) (es : List Pe) : List Pe := byPr (chainsE A es)
theorem chains_mem {A : List Row} {es : List Pe} {e : Pe} (h : e ∈ chainsE A es) : e ∈ es := by
  obtain ⟨c, hc, he⟩ := List.mem_flatten.mp h
  obtain ⟨g, hg, rfl⟩ := List.mem_map.mp hc
  have lo := levels_ok (fun e : Pe => e.2) g.2
  obtain ⟨l, hl, q⟩ := (chain_ok lo).2.2 e he
  have eg := lo.perm.mem_iff.mp (List.mem_flatten.mpr ⟨l, hl, q⟩)
  exact (groups_ok (lineOf A) es).perm.mem_iff.mp (List.mem_flatten.mpr ⟨g.2, List.mem_map.mpr ⟨g, hg, rfl⟩, eg⟩)
theorem great_mem {A : List Row} {es : List Pe} {e : Pe} (h : e ∈ greatE A es) : e ∈ es := chains_mem ((List.mergeSort_perm _ _).mem_iff.mp h)
theorem lev_len {es : List Pe} : (levelsZ (fun e : Pe => e.2) es).length ≤ es.length ∧ ∀ l ∈ levelsZ (fun e : Pe => e.2) es, l.length ≤ es.length := by
  have lo := levels_ok (fun e : Pe => e.2) es
  have pl := lo.perm.length_eq
  refine ⟨?_, fun l hl => ?_⟩
  · rw [← pl]
    have : ∀ L : List (List Pe), (∀ l ∈ L, l ≠ []) → L.length ≤ L.flatten.length := fun L => by
      induction L with
      | nil => exact fun _ => Nat.le_refl _
      | cons l L ih =>
        intro h
        have := ih fun x hx => h x (List.mem_cons_of_mem _ hx)
        have := List.length_pos_iff.mpr (h l (List.mem_cons_self ..))
        rw [List.flatten_cons, List.length_append, List.length_cons]
        omega
    exact this _ lo.some_
  · rw [← pl]
    exact (List.sublist_flatten_of_mem hl).length_le
def spGreatest (Tl : List (Addr × Str)) (K : PySem.W.Frag) : Sp := fun vs H Q _ => ∃ (ta t : Addr) (v2 v4 v5 : V) (A : List Row) (es : List Pe), vs = [.ref ta, v2, .ref t, v4, v5] ∧ LogAt K H ta A ∧ SqL K H t (es.map pv_) ∧ PeAt K H es ∧ (∀ e ∈ es, InA A e) ∧ es.length ≤ 1600 ∧ Tabs Tl H ∧
  ∀ H' q, ExtN H H' → Tabs Tl H' → NewF H q → LsAt H' q (greatE A es) → Q (.ref q) H'
theorem ok_greatest (T : Txt w K mg) (TB_levels_of : TabB base mg T.cc_levels_of (tabOf K T.cc_levels_of)) : FnOk P w K mg base CX0 5 T.a_greatest T.d_greatest ["bridge", "room", "pairs", "d", "lag"] (spGreatest (tabsT T) K) := by
  have G_levels_by_line := ok_by_line (P := P) T TB_levels_of
  have G_chain_through := ok_chain (P := P) (base := base) T
  refine FunD_okN T.F_greatest sc_greatest (fun vs H Q E h => ?_) (fun cdv A' outer s H vs Q E hr h => ?_)
  · obtain ⟨ta, t, v2, v4, v5, A, es, rfl, _⟩ := h
    rfl
  · obtain ⟨ta, t, v2, v4, v5, A, es, rfl, hA, hL, hP, hI, le, tabs, k⟩ := h
    have hr_levels_by_line := hr
    have hr_chain_through := hr.mono (show 2 ≤ 4 by decide)
    refine ⟨_, (pss_cons (ps_set (i := 5) sc_greatest.nd rfl (by first | exact Or.inl rfl | exact Or.inr rfl) (pe_lst pa_nil))
  (pss_cons (ps_for PassesOwn.never rfl (k_piL K (pe_call G_levels_by_line hr_levels_by_line (by rfl) T.g_levels_by_line T.F_levels_by_line.kp T.b_levels_by_line .nil pass0 (pa_cons (pv 0) (pa_cons (pv 2) pa_nil)))) (pg_name (i := 6) sc_greatest.nd rfl (by first | exact Or.inl rfl | exact Or.inr rfl)) (pss_one (ps_expr (pe_bm PySem.F.plainAttrs_list PySem.F.slot_list_extend PySem.F.type_list_extend mt_extend (pv 5) (pa_cons (pe_call G_chain_through hr_chain_through (by rfl) T.g_chain_through T.F_chain_through.kp T.b_chain_through .nil pass0 (pa_cons (pv 6) pa_nil)) pa_nil)))))
  (pss_one (ps_ret (pe_callB (k_sortPr K hr) (by rfl) T.z_sorted (by decide +kernel) (pa_cons (pv 5) pa_nil)))))), ?_⟩
    refine ⟨(by show 0 ≤ sizeLine; decide), fun J hJ => ?_⟩
    generalize hX : upd H J _ = H1
    obtain ⟨S1, f1⟩ := alloc hJ hX
    clear hX
    refine ⟨_, rfl, _, rfl, ta, t, A, es, rfl, hA.same S1, same_seqL S1 hL, hP.same S1, hI, le, tabs.ext S1, fun H2 q ls x2 t2 nq eq aq => ?_⟩
    have gok := groups_ok (lineOf A) es
    have inE : ∀ g ∈ groupsZ (lineOf A) es, g.2.length ≤ 1600 ∧ ∀ e ∈ g.2, e ∈ es := fun g hg => by
      refine ⟨?_, fun e he => gok.perm.mem_iff.mp (List.mem_flatten.mpr ⟨g.2, List.mem_map.mpr ⟨g, hg, rfl⟩, he⟩)⟩
      have l1 : g.2.length ≤ ((groupsZ (lineOf A) es).map (·.2)).flatten.length := (List.sublist_flatten_of_mem (List.mem_map.mpr ⟨g, hg, rfl⟩)).length_le
      rw [gok.perm.length_eq] at l1
      omega
    have Jq : J ≠ q := nq.ne f1 (fun _ => nofun)
    have nJ : NewF H J := .of hJ
    have xH2 : ExtN H H2 := (ExtN.of S1).trans x2
    refine ⟨q, rfl, ⟨_, SqL.of eq⟩, ?_⟩
    refine for_it walk_list (fun i σ H' => ∃ (x6 : Option V), σ = [some (.ref ta), some v2, some (.ref t), some v4, some v5, some (.ref J), x6] ∧ ExtN H H' ∧ Tabs (tabsT T) H' ∧ (∀ b xs, b ≠ J → H2 b = some (.lst xs) → H' b = some (.lst xs)) ∧
        LsAt H' J ((((groupsZ (lineOf A) es).take i).map fun g => chainZ (fun e : Pe => e.2) (levelsZ (fun e : Pe => e.2) g.2)).flatten))
      ⟨none, rfl, xH2, t2, fun _ _ _ e => e, by rw [List.take_zero]; exact x2 _ _ f1 (fun _ => nofun)⟩ (fun i σ H' _ ⟨_, _, _, _, s, _⟩ => SqL.of (s _ _ (Ne.symm Jq) eq)) ?_ ?_
    · rintro i v σ _ H3 hi ⟨x6, rfl, x3, t3, s3, eJ⟩ ⟨rfl, hv⟩
      obtain ⟨la, hla, rfl⟩ := map_get hv
      obtain ⟨Lv, hLv, lsq, na, ea, al⟩ := aq.get' hla
      rw [List.getElem?_map] at hLv
      obtain ⟨g, hg, rfl⟩ := Option.map_eq_some_iff.mp hLv
      have gE := inE g (List.mem_of_getElem? hg)
      have lo := levels_ok (fun e : Pe => e.2) g.2
      obtain ⟨ll1, ll2⟩ := lev_len (es := g.2)
      have Ja : la ≠ J := Ne.symm (na.ne f1 (fun _ => nofun))
      have al3 : At2 (LsAt H3) lsq (levelsZ (fun e : Pe => e.2) g.2) := al.imp fun a m q => s3 _ _ (Ne.symm (q.1.ne f1 (fun _ => nofun))) q.2
      have cl := (chain_ok lo).1
      have pre : ∀ (n : Nat) (gs : List (Str × List Pe)), (∀ g ∈ gs, g.2.length ≤ 1600) → ((gs.map fun g => chainZ (fun e : Pe => e.2) (levelsZ (fun e : Pe => e.2) g.2)).flatten).length ≤ gs.length * 1600 := fun n gs => by
        induction gs with
        | nil => exact fun _ => Nat.le_refl _
        | cons g gs ih =>
          intro h
          have h1 := ih fun x hx => h x (List.mem_cons_of_mem _ hx)
          have h2 := h g (List.mem_cons_self ..)
          have h3 := (chain_ok (levels_ok (fun e : Pe => e.2) g.2)).1
          have h4 := (lev_len (es := g.2)).1
          rw [List.map_cons, List.flatten_cons, List.length_append, List.length_cons, h3, Nat.succ_mul]
          omega
      have il : i < (groupsZ (lineOf A) es).length := (List.getElem?_eq_some_iff.mp hg).1
      have gm : (groupsZ (lineOf A) es).length ≤ 1600 := by
        have q := gr_many (A := A) (es := es) es.length
        rw [show grN A es es.length = groupsZ (lineOf A) es by unfold grN; rw [List.take_length]] at q
        omega
      have pb := pre i ((groupsZ (lineOf A) es).take i) fun x hx => (inE x (List.mem_of_mem_take hx)).1
      rw [List.length_take] at pb
      refine ⟨_, rfl, .inl ⟨rfl, _, SqL.of eJ⟩, _, rfl, la, lsq, _, g.2, rfl, SqL.of (s3 _ _ Ja ea), al3, lo, fun e he => PeAt.ext hP x3 e (gE.2 e he), by omega, fun l hl => Nat.le_trans (ll2 l hl) gE.1, fun H4 c S4 n4 ec => ?_⟩
      have eJ4 : H4 J = some (.lst (((((groupsZ (lineOf A) es).take i).map fun g => chainZ (fun e : Pe => e.2) (levelsZ (fun e : Pe => e.2) g.2)).flatten).map pv_)) := S4 _ _ eJ
      have ec : H4 c = some (.lst ((chainZ (fun e : Pe => e.2) (levelsZ (fun e : Pe => e.2) g.2)).map pv_)) := ec
      refine ⟨J, c, _, _, rfl, rfl, eJ4, ec, ?_, ?_⟩
      · rw [List.length_map, List.length_map, cl]
        exact Nat.le_trans (show _ ≤ 3000000 by omega) (by decide)
      · refine ⟨_, rfl, ext_own (x3.trans (ExtN.of S4)) nJ, tabs_set (t3.ext S4) eJ4, fun b xs n e => (upd_ne n).trans (S4 _ _ (s3 b xs n e)), ?_⟩
        show _ = _
        rw [upd_same, List.take_succ, hg, List.map_append, List.flatten_append, List.map_append]
        simp
    · rintro σ H3 ⟨x6, rfl, x3, t3, s3, eJ⟩
      have lg : (ls.map V.ref).length = (groupsZ (lineOf A) es).length := by
        rw [List.length_map, aq.len, List.length_map]
      rw [lg, List.take_length] at eJ
      have eJ : H3 J = some (.lst ((chainsE A es).map pv_)) := eJ
      refine ⟨_, rfl, J, chainsE A es, rfl, SqL.of eJ, fun e he => PeAt.ext hP x3 e (chains_mem he), fun p hp => ?_⟩
      exact k _ p (x3.trans (ExtN.of (same_new (Same.refl _) hp))) (tabs_new t3 hp) (.ext x3 (.of hp)) upd_same
def sentOf (l : Str) : Str := if l = "port" ∨ l = "star" ∨ l = "down" then "bridge" else "room"
def spSent (K : PySem.W.Frag) : Sp := fun vs H Q _ => ∃ l : Str, vs = [.str l] ∧ l ∈ lines6 ∧ Q (.str (sentOf l)) H
theorem ok_sent (T : Txt w K mg) : FnOk P w K mg base CX0 1 T.a_sent_from T.d_sent_from ["line"] (spSent K) := by
  refine T.F_sent_from.ok sc_sent_from (fun vs H Q E h => ?_) (fun cdv A outer s H vs Q E hr h => ?_)
  · obtain ⟨l, rfl, _⟩ := h
    rfl
  · obtain ⟨l, rfl, hl, k⟩ := h
    refine ⟨_, (pss_one (ps_ret (pe_ix ix_kdict (pe_glob (v := .ref T.D_SENDERS) (by rfl) T.c_SENDERS rfl) (pv 0) (fun _ _ => rfl)))), ?_⟩
    have l6 : l = "port" ∨ l = "star" ∨ l = "down" ∨ l = "aport" ∨ l = "astar" ∨ l = "up" := by simpa [lines6] using hl
    rcases l6 with rfl | rfl | rfl | rfl | rfl | rfl
    · exact ⟨_, rfl, T.D_SENDERS, _, _, rfl, rfl, T.kd_SENDERS ("port", .str "bridge") (by simp), k⟩
    · exact ⟨_, rfl, T.D_SENDERS, _, _, rfl, rfl, T.kd_SENDERS ("star", .str "bridge") (by simp), k⟩
    · exact ⟨_, rfl, T.D_SENDERS, _, _, rfl, rfl, T.kd_SENDERS ("down", .str "bridge") (by simp), k⟩
    · exact ⟨_, rfl, T.D_SENDERS, _, _, rfl, rfl, T.kd_SENDERS ("aport", .str "room") (by simp), k⟩
    · exact ⟨_, rfl, T.D_SENDERS, _, _, rfl, rfl, T.kd_SENDERS ("astar", .str "room") (by simp), k⟩
    · exact ⟨_, rfl, T.D_SENDERS, _, _, rfl, rfl, T.kd_SENDERS ("up", .str "room") (by simp), k⟩
/-! ### pairs -/
def likeP (x y : Row) : Bool := decide (x.l = y.l) && decide (x.w = y.w)
def lateP (x y : Row) (d : Int) : Int := if x.l = "port" ∨ x.l = "star" ∨ x.l = "down" then y.m - d - x.m else 0 - (y.m - d - x.m)
def lowP (x y : Row) (lag : Int) : Int := if x.l = "port" ∨ x.l = "star" ∨ x.l = "down" then y.m - x.m - lag else y.m - x.m
def highP (x y : Row) (lag : Int) : Int := if x.l = "port" ∨ x.l = "star" ∨ x.l = "down" then y.m - x.m else y.m - x.m + lag
theorem late_fit (x y : Row) (d lag : Int) : (decide (lowP x y lag ≤ d) && decide (d ≤ highP x y lag)) = (decide (0 ≤ lateP x y d) && decide (lateP x y d ≤ lag)) := by
  rw [Bool.eq_iff_iff, Bool.and_eq_true, Bool.and_eq_true, decide_eq_true_eq, decide_eq_true_eq, decide_eq_true_eq, decide_eq_true_eq]
  unfold lowP highP lateP
  split <;> omega
theorem like_eqv (x y : Row) : PyData.eqv (.tuple [.str x.l, x.w.d]) (.tuple [.str y.l, y.w.d]) = likeP x y := by
  show (x.l == y.l && (PyData.eqv x.w.d y.w.d && true)) = _
  have e : PyData.eqv x.w.d y.w.d = decide (x.w = y.w) := by
    cases x.w with
    | order i =>
      cases y.w with
      | order j =>
        show (i == j) = _
        rw [Bool.eq_iff_iff, beq_iff_eq, decide_eq_true_eq]
        exact ⟨fun z => by rw [z], fun z => by injection z⟩
      | name u => exact (decide_eq_false (fun z => nomatch z)).symm
    | name t =>
      cases y.w with
      | order j => exact (decide_eq_false (fun z => nomatch z)).symm
      | name u =>
        show (t == u) = _
        rw [Bool.eq_iff_iff, beq_iff_eq, decide_eq_true_eq]
        exact ⟨fun z => by rw [z], fun z => by injection z⟩
  rw [e, Bool.and_true]
  unfold likeP
  congr 1
def spWholeI : Sp := fun vs H Q _ => ∃ i : Int, vs = [.int i] ∧ Q (.bl true) H
theorem ok_is_whole (T : Txt w K mg) : FnOk P w K mg base CX0 1 T.a_is_whole T.d_is_whole ["thing"] spWholeI := by
  refine T.F_is_whole.ok sc_is_whole (fun vs H Q E h => ?_) (fun cdv A outer s H vs Q E hr h => ?_)
  · obtain ⟨i, rfl, _⟩ := h
    rfl
  · obtain ⟨i, rfl, k⟩ := h
    refine ⟨_, (pss_one (ps_ret (pe_and (pe_callB (k_isi K) (by rfl) T.z_isinstance (by decide +kernel) (pa_cons (pv 0) (pa_cons (pe_bltn (v := .ty "int") (by rfl) T.z_int (by decide +kernel) rfl) pa_nil))) (pe_one (pe_not (pe_callB (k_isi K) (by rfl) T.z_isinstance (by decide +kernel) (pa_cons (pv 0) (pa_cons (pe_bltn (v := .ty "bool") (by rfl) T.z_bool (by decide +kernel) rfl) pa_nil)))))))), ?_⟩
    refine ⟨_, rfl, _, _, _, _, true, rfl, ClsV.ty "int", .base (.int i), kit_ty (by show kitB "int" "int" = some true; decide +kernel), _, rfl, ?_⟩
    exact ⟨_, rfl, _, _, _, _, false, rfl, ClsV.ty "bool", .base (.int i), kit_ty (by show kitB "int" "bool" = some false; decide +kernel), _, rfl, k⟩
def spNumIn (K : PySem.W.Frag) : Sp := fun vs H Q _ => ∃ (t : Addr) (rs : List Row) (i : Nat), vs = [.ref t, .int i] ∧ LogAt K H t rs ∧ i < rs.length ∧ Q (.bl true) H
theorem ok_is_number_in (T : Txt w K mg) : FnOk P w K mg base CX0 2 T.a_is_number_in T.d_is_number_in ["log", "thing"] (spNumIn K) := by
  have G_is_whole := ok_is_whole (P := P) (base := base) T
  refine T.F_is_number_in.ok sc_is_number_in (fun vs H Q E h => ?_) (fun cdv A outer s H vs Q E hr h => ?_)
  · obtain ⟨t, rs, i, rfl, _⟩ := h
    rfl
  · obtain ⟨t, rs, i, rfl, hL, hi, k⟩ := h
    have hr_is_whole := hr
    obtain ⟨as, hT, hR⟩ := id hL
    have la := hR.length
    refine ⟨_, (pss_one (ps_ret (pe_and (pe_call G_is_whole hr_is_whole (by rfl) T.g_is_whole T.F_is_whole.kp T.b_is_whole .nil pass0 (pa_cons (pv 1) pa_nil)) (pe_one (pe_chain op_le op_lt pe_int (pv 1) (pe_callB (k_len K) (by rfl) T.z_len (by decide +kernel) (pa_cons (pv 0) pa_nil))))))), ?_⟩
    refine ⟨_, rfl, _, rfl, _, rfl, ?_⟩
    rw [if_pos rfl]
    refine ⟨_, rfl, _, _, rfl, rfl, _, rfl, ?_⟩
    rw [show decide ((0 : Int) ≤ (i : Int)) = true from decide_eq_true (by omega), if_pos rfl]
    refine ⟨_, rfl, t, _, rfl, .inr hT, _, _, rfl, rfl, ?_⟩
    show Q (.bl (decide ((i : Int) < ((as.map V.ref).length : Int)))) H
    rw [decide_eq_true (by rw [List.length_map, la]; omega)]
    exact k
def spIsPair (K : PySem.W.Frag) : Sp := fun vs H Q _ => ∃ (ta tb t : Addr) (A B : List Row) (b r : Nat) (x y : Row), vs = [.ref ta, .ref tb, .ref t] ∧ LogAt K H ta A ∧ LogAt K H tb B ∧ PrAt K H t (b, r) ∧ A[b]? = some x ∧ B[r]? = some y ∧ x.Ok ∧ y.Ok ∧ ∀ H', Same H H' → Q (.bl (likeP x y)) H'
theorem ok_is_pair (T : Txt w K mg) : FnOk P w K mg base CX0 3 T.a_is_pair T.d_is_pair ["bridge", "room", "thing"] (spIsPair K) := by
  have G_is_number_in := ok_is_number_in (P := P) (base := base) T
  refine T.F_is_pair.ok sc_is_pair (fun vs H Q E h => ?_) (fun cdv A outer s H vs Q E hr h => ?_)
  · obtain ⟨ta, tb, t, A, B, b, r, x, y, rfl, _⟩ := h
    rfl
  · obtain ⟨ta, tb, t, A, B, b, r, x, y, rfl, hA, hB, hP, hx, hy, xo, yo, k⟩ := h
    have hr_is_number_in := hr
    have bl := (List.getElem?_eq_some_iff.mp hx).1
    have rl := (List.getElem?_eq_some_iff.mp hy).1
    obtain ⟨as, hTa, hRa⟩ := id hA
    obtain ⟨bs, hTb, hRb⟩ := id hB
    obtain ⟨a1, ha1, rowA⟩ := hRa.get hx
    obtain ⟨b1, hb1, rowB⟩ := hRb.get hy
    refine ⟨_, (pss_cons (ps_if (PW.pt (pw_or (pt_not (pt_val (pe_callB (k_isi K) (by rfl) T.z_isinstance (by decide +kernel) (pa_cons (pv 2) (pa_cons (pe_bltn (v := .ty "tuple") (by rfl) T.z_tuple (by decide +kernel) rfl) pa_nil))))) (pw_or1 (pt_cmpR op_ne (pe_callB (k_len K) (by rfl) T.z_len (by decide +kernel) (pa_cons (pv 2) pa_nil)) pe_int (nomark _))))) (pss_one (ps_ret pe_bl)) pss_nil)
  (pss_cons (ps_asg (pv 2) (k_pgT (n := 2) K rfl (pgs_cons (pg_name (i := 3) sc_is_pair.nd rfl (by first | exact Or.inl rfl | exact Or.inr rfl)) (pgs_cons (pg_name (i := 4) sc_is_pair.nd rfl (by first | exact Or.inl rfl | exact Or.inr rfl)) pgs_nil))))
  (pss_cons (ps_if (PW.pt (pw_or (pt_not (pt_val (pe_call G_is_number_in hr_is_number_in (by rfl) T.g_is_number_in T.F_is_number_in.kp T.b_is_number_in .nil pass0 (pa_cons (pv 0) (pa_cons (pv 3) pa_nil))))) (pw_or1 (pt_not (pt_val (pe_call G_is_number_in hr_is_number_in (by rfl) T.g_is_number_in T.F_is_number_in.kp T.b_is_number_in .nil pass0 (pa_cons (pv 1) (pa_cons (pv 4) pa_nil)))))))) (pss_one (ps_ret pe_bl)) pss_nil)
  (pss_one (ps_ret (pe_cmpR (k_eqD K hr.units) (pe_slice (k_slT K) (pe_ix (kx_tup K) (pv 0) (pv 3) (fun _ _ => rfl)) (po_some pe_int) po_none) (pe_slice (k_slT K) (pe_ix (kx_tup K) (pv 1) (pv 4) (fun _ _ => rfl)) (po_some pe_int) po_none) (nomark _))))))), ?_⟩
    refine ⟨_, rfl, _, _, _, _, true, rfl, ClsV.ty "tuple", seqT_ty hP, kit_ty (by decide +kernel), _, rfl, ?_⟩
    show if (!true) = true then _ else _
    refine iteF ?_
    refine ⟨_, rfl, t, _, rfl, .inr hP, rfl, _, rfl, ?_⟩
    show if false = true then _ else _
    refine iteF ?_
    refine ⟨_, rfl, t, _, rfl, hP, rfl, _, _, rfl, _, _, rfl, rfl, ?_⟩
    refine ⟨_, rfl, _, rfl, ta, A, b, rfl, hA, bl, _, rfl, ?_⟩
    show if (!true) = true then _ else _
    refine iteF ?_
    refine ⟨_, rfl, _, rfl, tb, B, r, rfl, hB, rl, _, rfl, ?_⟩
    show if (!true) = true then _ else _
    refine iteF ?_
    have ga : atI (as.map V.ref) (b : Int) = some (.ref a1) := atI_nat (by rw [List.getElem?_map, ha1]; rfl)
    have gb : atI (bs.map V.ref) (r : Int) = some (.ref b1) := atI_nat (by rw [List.getElem?_map, hb1]; rfl)
    refine ⟨_, rfl, _, rfl, ta, _, _, _, rfl, rfl, hTa, ga, 1, rfl, a1, _, rfl, rowA, (by show ¬(1 = 0 ∧ _); exact fun z => nomatch z.1), fun p1 hp1 => ?_⟩
    generalize hX : upd H p1 _ = H1
    obtain ⟨S1, f1⟩ := alloc hp1 hX
    clear hX
    refine ⟨_, rfl, _, rfl, tb, _, _, _, rfl, rfl, same_seqT S1 hTb, gb, 1, rfl, b1, _, rfl, same_seqT S1 rowB, (by show ¬(1 = 0 ∧ _); exact fun z => nomatch z.1), fun p2 hp2 => ?_⟩
    generalize hX : upd H1 p2 _ = H2
    obtain ⟨S2, f2⟩ := alloc hp2 hX
    clear hX
    have tl : ∀ q : Row, q.Ok → RepOk (.tuple [.str q.l, q.w.d]) 1 18 := fun q qo => (RepOk.tuple (k := 0) (n := 8) fun d hd => by
      have z : d = .str q.l ∨ d = q.w.d := by simpa using hd
      rcases z with rfl | rfl
      · exact RepOk.tok (lines6_ok _ qo.ln)
      · refine What.rep ?_
        rcases qo.wh with ⟨_, t, e, q⟩ | ⟨_, i, e, q1, q2⟩
        · exact .inr ⟨t, e, q⟩
        · exact .inl ⟨i, e, q1, q2⟩).mono (Nat.le_refl _) (by show 2 * 9 ≤ 18; decide)
    refine ⟨.tuple [.str x.l, x.w.d], .tuple [.str y.l, y.w.d], .tup (SqT.of (S2 _ _ f1)) (.cons (.str _) (.cons x.w.dp .nil)), .tup (SqT.of f2) (.cons (.str _) (.cons y.w.dp .nil)), (tl x xo).shaped (by decide), (tl y yo).shaped (by decide), ?_⟩
    rw [like_eqv]
    exact k H2 (S1.trans S2)
def spSpan (K : PySem.W.Frag) : Sp := fun vs H Q _ => ∃ (ta tb t : Addr) (A B : List Row) (b r : Nat) (x y : Row) (lag : Int), vs = [.ref ta, .ref tb, .ref t, .int lag] ∧ LogAt K H ta A ∧ LogAt K H tb B ∧ PrAt K H t (b, r) ∧ A[b]? = some x ∧ B[r]? = some y ∧ x.Ok ∧ y.Ok ∧ likeP x y = true ∧
  ∀ H' u, Same H H' → H' u = some (.tup [.int (lowP x y lag), .int (highP x y lag)]) → H u = none → Q (.ref u) H'
theorem ok_span (T : Txt w K mg) : FnOk P w K mg base CX0 4 T.a_span T.d_span ["bridge", "room", "pair", "lag"] (spSpan K) := by
  have G_is_pair := ok_is_pair (P := P) (base := base) T
  have G_sent_from := ok_sent (P := P) (base := base) T
  refine FunD_okN T.F_span sc_span (fun vs H Q E h => ?_) (fun cdv A outer s H vs Q E hr h => ?_)
  · obtain ⟨ta, tb, t, A, B, b, r, x, y, lag, rfl, _⟩ := h
    rfl
  · obtain ⟨ta, tb, t, A, B, b, r, x, y, lag, rfl, hA, hB, hP, hx, hy, xo, yo, lk, k⟩ := h
    have hr_is_pair := hr
    have hr_sent_from := hr.mono (show 1 ≤ 3 by decide)
    refine ⟨_, (pss_cons (ps_if (pt_not (pt_val (pe_call G_is_pair hr_is_pair (by rfl) T.g_is_pair T.F_is_pair.kp T.b_is_pair .nil pass0 (pa_cons (pv 0) (pa_cons (pv 1) (pa_cons (pv 2) pa_nil)))))) (pss_one ps_never) pss_nil)
  (pss_cons (ps_asg (pv 2) (k_pgT (n := 2) K rfl (pgs_cons (pg_name (i := 4) sc_span.nd rfl (by first | exact Or.inl rfl | exact Or.inr rfl)) (pgs_cons (pg_name (i := 5) sc_span.nd rfl (by first | exact Or.inl rfl | exact Or.inr rfl)) pgs_nil))))
  (pss_cons (ps_set (i := 6) sc_span.nd rfl (by first | exact Or.inl rfl | exact Or.inr rfl) (pe_op op_sub (pe_ix (kx_tup K) (pe_ix (kx_tup K) (pv 1) (pv 5) (fun _ _ => rfl)) pe_int (fun _ _ => rfl)) (pe_ix (kx_tup K) (pe_ix (kx_tup K) (pv 0) (pv 4) (fun _ _ => rfl)) pe_int (fun _ _ => rfl))))
  (pss_cons (ps_if (pt_cmpR op_eq (pe_call G_sent_from hr_sent_from (by rfl) T.g_sent_from T.F_sent_from.kp T.b_sent_from .nil pass0 (pa_cons (pe_ix (kx_tup K) (pe_ix (kx_tup K) (pv 0) (pv 4) (fun _ _ => rfl)) pe_int (fun _ _ => rfl)) pa_nil)) pe_str (nomark _)) (pss_one (ps_ret (pe_tup (pa_cons (pe_op op_sub (pv 6) (pv 3)) (pa_cons (pv 6) pa_nil))))) pss_nil)
  (pss_one (ps_ret (pe_tup (pa_cons (pv 6) (pa_cons (pe_op op_add (pv 6) (pv 3)) pa_nil))))))))), ?_⟩
    refine ⟨_, rfl, _, rfl, _, rfl, ta, tb, t, A, B, b, r, x, y, rfl, hA, hB, hP, hx, hy, xo, yo, fun H1 S1 => ?_⟩
    rw [lk]
    refine ⟨_, rfl, ?_⟩
    show if (!true) = true then _ else _
    refine iteF ?_
    have hP1 := hP.same S1
    obtain ⟨as, hTa, hRa⟩ := hA.same S1
    obtain ⟨bs, hTb, hRb⟩ := hB.same S1
    obtain ⟨a1, ha1, rowA⟩ := hRa.get hx
    obtain ⟨b1, hb1, rowB⟩ := hRb.get hy
    have ga : atI (as.map V.ref) (b : Int) = some (.ref a1) := atI_nat (by rw [List.getElem?_map, ha1]; rfl)
    have gb : atI (bs.map V.ref) (r : Int) = some (.ref b1) := atI_nat (by rw [List.getElem?_map, hb1]; rfl)
    refine ⟨_, rfl, t, _, rfl, hP1, rfl, _, _, rfl, _, _, rfl, rfl, ?_⟩
    refine ⟨_, rfl, _, rfl, tb, _, _, _, rfl, rfl, hTb, gb, b1, _, 0, _, rfl, rfl, rowB, rfl, _, rfl, _, rfl, ta, _, _, _, rfl, rfl, hTa, ga, a1, _, 0, _, rfl, rfl, rowA, rfl, _, _, rfl, rfl, ?_⟩
    refine ⟨_, rfl, _, rfl, ta, _, _, _, rfl, rfl, hTa, ga, a1, _, 1, _, rfl, rfl, rowA, rfl, x.l, rfl, xo.ln, rfl, _, rfl, ?_⟩
    by_cases z : x.l = "port" ∨ x.l = "star" ∨ x.l = "down"
    · have e : sentOf x.l = "bridge" := if_pos z
      rw [e]
      show if decide (V.str "bridge" = V.str "bridge") = true then _ else _
      rw [if_pos (decide_eq_true rfl)]
      refine ⟨_, rfl, _, rfl, _, _, rfl, rfl, _, rfl, (by show 2 ≤ sizeLine; decide), fun u hu => ?_⟩
      have ev : V.int (lowP x y lag) = V.int (y.m - x.m - lag) := by unfold lowP; rw [if_pos z]
      have eh : V.int (highP x y lag) = V.int (y.m - x.m) := by unfold highP; rw [if_pos z]
      exact k _ u (same_new S1 hu) (by rw [upd_same, ev, eh]) (S1.free hu)
    · have e : sentOf x.l = "room" := if_neg z
      rw [e]
      show if decide (V.str "room" = V.str "bridge") = true then _ else _
      rw [decide_eq_false (by decide +kernel), if_neg (by decide)]
      refine ⟨_, rfl, _, rfl, _, rfl, _, _, rfl, rfl, (by show 2 ≤ sizeLine; decide), fun u hu => ?_⟩
      have ev : V.int (lowP x y lag) = V.int (y.m - x.m) := by unfold lowP; rw [if_neg z]
      have eh : V.int (highP x y lag) = V.int (y.m - x.m + lag) := by unfold highP; rw [if_neg z]
      exact k _ u (same_new S1 hu) (by rw [upd_same, ev, eh]) (S1.free hu)
def fitP (x y : Row) (d lag : Int) : Bool := decide (0 ≤ lateP x y d) && decide (lateP x y d ≤ lag)
def spFits (K : PySem.W.Frag) : Sp := fun vs H Q _ => ∃ (ta tb t : Addr) (A B : List Row) (b r : Nat) (x y : Row) (d lag : Int), vs = [.ref ta, .ref tb, .ref t, .int d, .int lag] ∧ LogAt K H ta A ∧ LogAt K H tb B ∧ PrAt K H t (b, r) ∧ A[b]? = some x ∧ B[r]? = some y ∧ x.Ok ∧ y.Ok ∧ likeP x y = true ∧
  ∀ H', Same H H' → Q (.bl (fitP x y d lag)) H'
theorem ok_fits (T : Txt w K mg) : FnOk P w K mg base CX0 5 T.a_fits T.d_fits ["bridge", "room", "pair", "d", "lag"] (spFits K) := by
  have G_span := ok_span (P := P) (base := base) T
  refine T.F_fits.ok sc_fits (fun vs H Q E h => ?_) (fun cdv A outer s H vs Q E hr h => ?_)
  · obtain ⟨ta, tb, t, A, B, b, r, x, y, d, lag, rfl, _⟩ := h
    rfl
  · obtain ⟨ta, tb, t, A, B, b, r, x, y, d, lag, rfl, hA, hB, hP, hx, hy, xo, yo, lk, k⟩ := h
    have hr_span := hr
    refine ⟨_, (pss_cons (ps_asg (pe_call G_span hr_span (by rfl) T.g_span T.F_span.kp T.b4_span T.v4_span pass0 (pa_cons (pv 0) (pa_cons (pv 1) (pa_cons (pv 2) (pa_cons (pv 4) pa_nil))))) (k_pgT (n := 2) K rfl (pgs_cons (pg_name (i := 5) sc_fits.nd rfl (by first | exact Or.inl rfl | exact Or.inr rfl)) (pgs_cons (pg_name (i := 6) sc_fits.nd rfl (by first | exact Or.inl rfl | exact Or.inr rfl)) pgs_nil))))
  (pss_one (ps_ret (pe_chain op_le op_le (pv 5) (pv 3) (pv 6))))), ?_⟩
    refine ⟨_, rfl, _, rfl, _, rfl, _, rfl, ta, tb, t, A, B, b, r, x, y, lag, rfl, hA, hB, hP, hx, hy, xo, yo, lk, fun H1 u S1 f1 _ => ?_⟩
    refine ⟨u, _, rfl, SqT.of f1, rfl, _, _, rfl, _, _, rfl, rfl, ?_⟩
    refine ⟨_, rfl, _, rfl, _, _, rfl, rfl, _, rfl, ?_⟩
    have kk := k H1 S1
    unfold fitP at kk
    rw [← late_fit] at kk
    cases z : decide (lowP x y lag ≤ d) with
    | false =>
      rw [z] at kk
      exact kk
    | true =>
      rw [z] at kk
      exact ⟨_, rfl, _, _, rfl, rfl, kk⟩
/-! ### all pairs, those at a difference -/
def nums (m n : Nat) : List (Int × Int) := (List.range m).flatMap fun b : Nat => (List.range n).map fun r : Nat => ((b : Int), (r : Int))
theorem nums_succ (m n : Nat) : nums (m + 1) n = nums m n ++ (List.range n).map fun r : Nat => ((m : Int), (r : Int)) := by
  unfold nums
  rw [List.range_succ, List.flatMap_append]
  simp
theorem nums_mem {m n : Nat} {z : Int × Int} (h : z ∈ nums m n) : ∃ b r : Nat, z = ((b : Int), (r : Int)) ∧ b < m ∧ r < n := by
  unfold nums at h
  obtain ⟨b, hb, h2⟩ := List.mem_flatMap.mp h
  obtain ⟨r, hr, e⟩ := List.mem_map.mp h2
  exact ⟨b, r, e.symm, List.mem_range.mp hb, List.mem_range.mp hr⟩
theorem nums_len (m n : Nat) : (nums m n).length = m * n := by
  induction m with
  | zero => rw [Nat.zero_mul]; rfl
  | succ m ih => rw [nums_succ, List.length_append, ih, List.length_map, List.length_range, Nat.succ_mul]
def okN (A B : List Row) (z : Int × Int) : Bool := match A[z.1.toNat]?, B[z.2.toNat]? with
  | some x, some y => likeP x y
  | _, _ => false
def fitN (A B : List Row) (d lag : Int) (z : Int × Int) : Bool := match A[z.1.toNat]?, B[z.2.toNat]? with
  | some x, some y => fitP x y d lag
  | _, _ => false
theorem okN_eq {A B : List Row} {b r : Nat} {x y : Row} (hx : A[b]? = some x) (hy : B[r]? = some y) : okN A B ((b : Int), (r : Int)) = likeP x y := by
  unfold okN
  show (match A[((b : Nat) : Int).toNat]?, B[((r : Nat) : Int).toNat]? with
  | some x, some y => likeP x y
  | _, _ => false) = _
  rw [Int.toNat_natCast, Int.toNat_natCast, hx, hy]
theorem fitN_eq {A B : List Row} {b r : Nat} {x y : Row} {d lag : Int} (hx : A[b]? = some x) (hy : B[r]? = some y) : fitN A B d lag ((b : Int), (r : Int)) = fitP x y d lag := by
  unfold fitN
  show (match A[((b : Nat) : Int).toNat]?, B[((r : Nat) : Int).toNat]? with
  | some x, some y => fitP x y d lag
  | _, _ => false) = _
  rw [Int.toNat_natCast, Int.toNat_natCast, hx, hy]
def prsAll (A B : List Row) : List (Int × Int) := (nums A.length B.length).filter (okN A B)
def prsAt (A B : List Row) (d lag : Int) : List (Int × Int) := (prsAll A B).filter (fitN A B d lag)
theorem prsAll_mem {A B : List Row} {z : Int × Int} (h : z ∈ prsAll A B) : ∃ (b r : Nat) (x y : Row), z = ((b : Int), (r : Int)) ∧ A[b]? = some x ∧ B[r]? = some y ∧ likeP x y = true := by
  obtain ⟨h1, h2⟩ := List.mem_filter.mp h
  obtain ⟨b, r, rfl, hb, hr⟩ := nums_mem h1
  have hx : A[b]? = some A[b] := List.getElem?_eq_getElem hb
  have hy : B[r]? = some B[r] := List.getElem?_eq_getElem hr
  rw [okN_eq hx hy] at h2
  exact ⟨b, r, _, _, rfl, hx, hy, h2⟩
theorem iteT {a b : Prop} (h : a) : if true = true then a else b := by
  rw [if_pos rfl]
  exact h
theorem lt_sizeLine {n : Nat} (h : n ≤ 100000) : n < sizeLine := Nat.lt_of_le_of_lt h (by decide)
theorem le1600 {a b c d : Nat} (h1 : a ≤ c) (h2 : b ≤ d) : a * b ≤ c * d := Nat.mul_le_mul h1 h2
def spAllPairs (K : PySem.W.Frag) : Sp := fun vs H Q _ => ∃ (ta tb : Addr) (A B : List Row), vs = [.ref ta, .ref tb] ∧ LogAt K H ta A ∧ LogAt K H tb B ∧ (∀ r ∈ A, r.Ok) ∧ (∀ r ∈ B, r.Ok) ∧ A.length ≤ 40 ∧ B.length ≤ 40 ∧
  ∀ H' l as, Same H H' → H l = none → H' l = some (.lst (as.map V.ref)) → At2 (PrAt K H') as (prsAll A B) → Q (.ref l) H'
theorem ok_all_pairs (T : Txt w K mg) : FnOk P w K mg base CX0 4 T.a_all_pairs T.d_all_pairs ["bridge", "room"] (spAllPairs K) := by
  have G_is_pair := ok_is_pair (P := P) (base := base) T
  refine T.F_all_pairs.ok sc_all_pairs (fun vs H Q E h => ?_) (fun cdv A outer s H vs Q E hr h => ?_)
  · obtain ⟨ta, tb, A, B, rfl, _⟩ := h
    rfl
  · obtain ⟨ta, tb, A, B, rfl, hA, hB, okA, okB, lA, lB, k⟩ := h
    have hr_is_pair := hr
    obtain ⟨as0, hTa, hRa⟩ := id hA
    obtain ⟨bs0, hTb, hRb⟩ := id hB
    have la := hRa.length
    have lb := hRb.length
    have lA2 : ((as0.map V.ref).length : Int) = (A.length : Int) := by rw [List.length_map, la]
    have lB2 : ((bs0.map V.ref).length : Int) = (B.length : Int) := by rw [List.length_map, lb]
    refine ⟨_, (pss_cons (ps_setLc2 (i := 2) (own := [("b", 3), ("r", 4)]) (vs1 := [4]) rfl sc_all_pairs.nd rfl rfl (sw_true rfl rfl rfl (by decide +kernel)) (pi_range1 (by rfl) T.z_range (pa_cons (pe_callB (k_len K) (by rfl) T.z_len (by decide +kernel) (pa_cons (pv 0) pa_nil)) pa_nil)) (blkOk_by (own := [("b", 3), ("r", 4)]) (N := ["bridge", "room", "numbers", "b", "r", "pair"]) (sc := defScope s_all_pairs) (by decide +kernel)) (by decide) (fun _ _ _ _ _ => (pg_name (i := 3) sc_all_pairs.nd rfl (by first | exact Or.inl rfl | exact Or.inr rfl))) (fun _ _ _ _ _ => pts_nil) (fun _ _ _ _ _ => (pi_range1 (by rfl) T.z_range (pa_cons (pe_callB (k_len K) (by rfl) T.z_len (by decide +kernel) (pa_cons (pv 1) pa_nil)) pa_nil))) (fun _ _ _ _ _ => (pg_name (i := 4) sc_all_pairs.nd rfl (by first | exact Or.inl rfl | exact Or.inr rfl))) (fun _ _ _ _ _ => pts_nil) (fun _ _ _ _ _ => (pe_tup (pa_cons (pv 3) (pa_cons (pv 4) pa_nil)))))
  (pss_one (ps_ret (pe_lc (own := [("pair", 5)]) rfl sc_all_pairs.nd (k_piL K (pv 2)) (blkOk_by (own := [("pair", 5)]) (N := ["bridge", "room", "numbers", "b", "r", "pair"]) (sc := defScope s_all_pairs) (by decide +kernel)) (fun _ _ _ _ _ => (pg_name (i := 5) sc_all_pairs.nd rfl (by first | exact Or.inl rfl | exact Or.inr rfl))) (fun _ _ _ _ _ => (pts_one (pt_val (pe_call G_is_pair hr_is_pair (by rfl) T.g_is_pair T.F_is_pair.kp T.b_is_pair .nil pass0 (pa_cons (pv 0) (pa_cons (pv 1) (pa_cons (pv 5) pa_nil))))))) (fun _ _ _ _ _ => (pv 5)))))), ?_⟩
    refine ⟨_, rfl, ta, _, rfl, .inr hTa, ?_⟩
    rw [lA2]
    refine ⟨_, rfl, by omega, by omega, fun D hD => ?_⟩
    refine lc2_it walk_range (fun i H' => Same H H' ∧ ∃ ds : List Addr, H' D = some (.lst (ds.map V.ref)) ∧ At2 (PrAt K H') ds (nums i B.length)) ⟨same_new (Same.refl _) hD, [], upd_same, .nil⟩ (fun _ _ _ _ => trivial) ?_ ?_
    · rintro i x _ H1 hi ⟨S1, ds, e1, h1⟩ ⟨rfl, rfl⟩
      refine ⟨rfl, _, rfl, tb, _, rfl, .inr (same_seqT S1 hTb), ?_⟩
      rw [lB2]
      refine ⟨_, rfl, by omega, by omega, ?_⟩
      have i40 : i < 40 := by omega
      refine lc2_in walk_range (fun j H' => Same H H' ∧ ∃ ds : List Addr, H' D = some (.lst (ds.map V.ref)) ∧ At2 (PrAt K H') ds (nums i B.length ++ (List.range j).map fun r : Nat => ((i : Int), (r : Int)))) ⟨S1, ds, e1, by rw [List.range_zero, List.map_nil, List.append_nil]; exact h1⟩ (fun _ _ _ _ => trivial) ?_ ?_
      · rintro j x _ H2 hj ⟨S2, ds2, e2, h2⟩ ⟨rfl, rfl⟩
        have j40 : j < 40 := by omega
        refine ⟨rfl, _, rfl, _, rfl, (by show 2 ≤ sizeLine; decide), fun v hv => ?_⟩
        generalize hX : upd H2 v _ = H3
        obtain ⟨S3, f3⟩ := alloc hv hX
        clear hX
        have ln := h2.len
        rw [List.length_append, nums_len, List.length_map, List.length_range] at ln
        have lm := le1600 (Nat.le_of_lt i40) lB
        refine ⟨_, S3 _ _ e2, lt_sizeLine (by rw [List.length_map]; omega), same_own (S2.trans S3) hD, ds2 ++ [v], by rw [upd_same, List.map_append]; rfl, ?_⟩
        rw [List.range_succ, List.map_append, ← List.append_assoc]
        have row : PrAt K H3 v ((i : Int), (j : Int)) := by
          have q := SqT.of (K := K) f3
          simp only [Int.zero_add] at q
          exact q
        have two : At2 (PrAt K H3) (ds2 ++ [v]) ((nums i B.length ++ (List.range j).map fun r : Nat => ((i : Int), (r : Int))) ++ [((i : Int), (j : Int))]) := (h2.imp fun _ _ q => q.same S3).snoc row
        exact two.imp fun _ _ q => (ButN.of_but (But.put (o := .lst (ds2.map V.ref ++ [V.ref v])))).seqT' (S3 _ _ e2) q
      · rintro H2 ⟨S2, ds2, e2, h2⟩
        rw [Int.toNat_natCast] at h2
        exact ⟨S2, ds2, e2, by rw [nums_succ]; exact h2⟩
    · rintro H1 ⟨S1, ds, e1, h1⟩
      rw [Int.toNat_natCast] at h1
      have ln := h1.len
      rw [nums_len] at ln
      have lm := le1600 lA lB
      refine ⟨_, rfl, D, rfl, ⟨_, SqL.of e1⟩, fun D2 hD2 => ?_⟩
      have fD2 := S1.free hD2
      refine lc_it walk_list (fun i H' => Same H1 H' ∧ ∃ es : List Addr, H' D2 = some (.lst (es.map V.ref)) ∧ At2 (PrAt K H') es (((nums A.length B.length).take i).filter (okN A B)) ∧ es.length ≤ i) ⟨same_new (Same.refl _) hD2, [], upd_same, .nil, Nat.le_refl _⟩ (fun i H' _ q => SqL.of (q.1 _ _ e1)) ?_ ?_
      · rintro i x H2 H3 hi ⟨S2, es, e2, h2, l2⟩ ⟨rfl, hx⟩
        obtain ⟨a, ha, rfl⟩ := map_get hx
        obtain ⟨z, hz, row⟩ := h1.get' ha
        obtain ⟨b, r, rfl, hb, hr2⟩ := nums_mem (List.mem_of_getElem? hz)
        have hx : A[b]? = some A[b] := List.getElem?_eq_getElem hb
        have hy : B[r]? = some B[r] := List.getElem?_eq_getElem hr2
        rw [List.length_map, h1.len, nums_len] at hi
        refine ⟨rfl, _, rfl, _, rfl, _, rfl, ta, tb, a, A, B, b, r, _, _, rfl, hA.same (S1.trans S2), hB.same (S1.trans S2), row.same S2, hx, hy, okA _ (List.mem_of_getElem? hx), okB _ (List.mem_of_getElem? hy), fun H4 S4 => ?_⟩
        have ok1 := okN_eq hx hy
        have tk : ((nums A.length B.length).take (i + 1)).filter (okN A B) = ((nums A.length B.length).take i).filter (okN A B) ++ [((b : Int), (r : Int))].filter (okN A B) := by
          rw [List.take_succ, hz, List.filter_append]
          rfl
        have h4 := h2.imp fun _ _ q => q.same S4
        refine ⟨_, rfl, ?_⟩
        cases z1 : likeP A[b] B[r] with
        | false =>
          rw [z1] at ok1
          refine ⟨S2.trans S4, es, S4 _ _ e2, ?_, by omega⟩
          rw [tk, List.filter_cons, ok1]
          simpa using h4
        | true =>
          rw [z1] at ok1
          refine ⟨_, rfl, _, S4 _ _ e2, lt_sizeLine (by rw [List.length_map]; omega), same_own (S2.trans S4) hD2, es ++ [a], by rw [upd_same, List.map_append]; rfl, ?_, by rw [List.length_append]; show _ + 1 ≤ _; omega⟩
          rw [tk, List.filter_cons, ok1]
          have two := h4.snoc ((row.same S2).same S4)
          exact two.imp fun _ _ q => (ButN.of_but (But.put (o := .lst (es.map V.ref ++ [V.ref a])))).seqT' (S4 _ _ e2) q
      · rintro H2 ⟨S2, es, e2, h2, l2⟩
        rw [List.length_map, h1.len, List.take_length] at h2
        exact k H2 D2 es (S1.trans S2) fD2 e2 h2
def spPairsAt (K : PySem.W.Frag) : Sp := fun vs H Q _ => ∃ (ta tb : Addr) (A B : List Row) (d lag : Int), vs = [.ref ta, .ref tb, .int d, .int lag] ∧ LogAt K H ta A ∧ LogAt K H tb B ∧ (∀ r ∈ A, r.Ok) ∧ (∀ r ∈ B, r.Ok) ∧ A.length ≤ 40 ∧ B.length ≤ 40 ∧
  ∀ H' l as, Same H H' → H l = none → H' l = some (.lst (as.map V.ref)) → At2 (PrAt K H') as (prsAt A B d lag) → Q (.ref l) H'
theorem prsAll_len {A B : List Row} (lA : A.length ≤ 40) (lB : B.length ≤ 40) : (prsAll A B).length ≤ 1600 := by
  refine Nat.le_trans (List.length_filter_le _ _) ?_
  rw [nums_len]
  exact le1600 lA lB
theorem ok_pairs_at (T : Txt w K mg) : FnOk P w K mg base CX0 6 T.a_pairs_at T.d_pairs_at ["bridge", "room", "d", "lag"] (spPairsAt K) := by
  have G_all_pairs := ok_all_pairs (P := P) (base := base) T
  have G_fits := ok_fits (P := P) (base := base) T
  refine FunD_okN T.F_pairs_at sc_pairs_at (fun vs H Q E h => ?_) (fun cdv A outer s H vs Q E hr h => ?_)
  · obtain ⟨ta, tb, A, B, d, lag, rfl, _⟩ := h
    rfl
  · obtain ⟨ta, tb, A, B, d, lag, rfl, hA, hB, okA, okB, lA, lB, k⟩ := h
    have hr_fits := hr
    have hr_all_pairs := hr.mono (show 4 ≤ 5 by decide)
    refine ⟨_, (pss_one (ps_ret (pe_lc (own := [("pair", 4)]) rfl sc_pairs_at.nd (k_piL K (pe_call G_all_pairs hr_all_pairs (by rfl) T.g_all_pairs T.F_all_pairs.kp T.b_all_pairs .nil pass0 (pa_cons (pv 0) (pa_cons (pv 1) pa_nil)))) (blkOk_by (own := [("pair", 4)]) (N := ["bridge", "room", "d", "lag", "pair"]) (sc := defScope s_pairs_at) (by decide +kernel)) (fun _ _ _ _ _ => (pg_name (i := 4) sc_pairs_at.nd rfl (by first | exact Or.inl rfl | exact Or.inr rfl))) (fun _ _ _ _ _ => (pts_one (pt_val (pe_call G_fits hr_fits (by rfl) T.g_fits T.F_fits.kp T.b_fits .nil pass0 (pa_cons (pv 0) (pa_cons (pv 1) (pa_cons (pv 4) (pa_cons (pv 2) (pa_cons (pv 3) pa_nil))))))))) (fun _ _ _ _ _ => (pv 4))))), ?_⟩
    refine ⟨_, rfl, _, rfl, ta, tb, A, B, rfl, hA, hB, okA, okB, lA, lB, fun H1 D as S1 fD e1 h1 => ?_⟩
    have ln := prsAll_len lA lB
    have nD : ∀ {o : HO}, H D = some o → False := fun {_} z => by
      rw [z] at fD
      cases fD
    refine ⟨D, rfl, ⟨_, SqL.of e1⟩, fun D2 hD2 => ?_⟩
    have fD2 := S1.free hD2
    refine lc_it walk_list (fun i H' => Same H1 H' ∧ ∃ es : List Addr, H' D2 = some (.lst (es.map V.ref)) ∧ At2 (PrAt K H') es (((prsAll A B).take i).filter (fitN A B d lag)) ∧ es.length ≤ i) ⟨same_new (Same.refl _) hD2, [], upd_same, .nil, Nat.le_refl _⟩ (fun i H' _ q => SqL.of (q.1 _ _ e1)) ?_ ?_
    · rintro i x H2 H3 hi ⟨S2, es, e2, h2, l2⟩ ⟨rfl, hx⟩
      obtain ⟨a, ha, rfl⟩ := map_get hx
      obtain ⟨z, hz, row⟩ := h1.get' ha
      obtain ⟨b, r, x, y, rfl, hx, hy, lk⟩ := prsAll_mem (List.mem_of_getElem? hz)
      rw [List.length_map, h1.len] at hi
      refine ⟨rfl, _, rfl, _, rfl, _, rfl, _, rfl, _, rfl, ta, tb, a, A, B, b, r, x, y, d, lag, rfl, hA.same (S1.trans S2), hB.same (S1.trans S2), row.same S2, hx, hy, okA _ (List.mem_of_getElem? hx), okB _ (List.mem_of_getElem? hy), lk, fun H4 S4 => ?_⟩
      have ok1 := fitN_eq (d := d) (lag := lag) hx hy
      have tk : ((prsAll A B).take (i + 1)).filter (fitN A B d lag) = ((prsAll A B).take i).filter (fitN A B d lag) ++ [((b : Int), (r : Int))].filter (fitN A B d lag) := by
        rw [List.take_succ, hz, List.filter_append]
        rfl
      have h4 := h2.imp fun _ _ q => q.same S4
      refine ⟨_, rfl, ?_⟩
      cases z1 : fitP x y d lag with
      | false =>
        rw [z1] at ok1
        refine ⟨S2.trans S4, es, S4 _ _ e2, ?_, by omega⟩
        rw [tk, List.filter_cons, ok1]
        simpa using h4
      | true =>
        rw [z1] at ok1
        refine ⟨_, rfl, _, S4 _ _ e2, lt_sizeLine (by rw [List.length_map]; omega), same_own (S2.trans S4) hD2, es ++ [a], by rw [upd_same, List.map_append]; rfl, ?_, by rw [List.length_append]; show _ + 1 ≤ _; omega⟩
        rw [tk, List.filter_cons, ok1]
        have two := h4.snoc ((row.same S2).same S4)
        exact two.imp fun _ _ q => (ButN.of_but (But.put (o := .lst (es.map V.ref ++ [V.ref a])))).seqT' (S4 _ _ e2) q
    · rintro H2 ⟨S2, es, e2, h2, l2⟩
      rw [List.length_map, h1.len, List.take_length] at h2
      exact k H2 D2 es (S1.trans S2) fD2 e2 h2
/-! ### a joining -/
theorem great_z (A : List Row) (es : List Pe) : (greatE A es).map (·.2) = greatZ A (es.map (·.2)) := by
  have hz : ∀ a : Pe, (id : Int × Int → Int × Int) ((fun e : Pe => e.2) a) = (fun e : Pe => e.2) a := fun _ => rfl
  have g := groups_map (f := fun e : Pe => e.2) (line := lineOf A) (line2 := lineZ A) (fun _ => rfl) es
  have c : (chainsE A es).map (·.2) = chainsZ A (es.map (·.2)) := by
    unfold chainsE chainsZ
    rw [← g, List.map_map, List.map_flatten, List.map_map]
    congr 2
    funext x
    show (chainZ (fun e : Pe => e.2) (levelsZ (fun e : Pe => e.2) x.2)).map (fun e : Pe => e.2) = chainZ id (levelsZ id (x.2.map fun e : Pe => e.2))
    rw [chain_map (z2 := id) hz, levels_map (z2 := id) hz]
  unfold greatE greatZ
  rw [← c]
  exact sortZ_map (z := fun e : Pe => e.2) (z2 := id) hz (chainsE A es)
def joinZ (A B : List Row) (d lag : Int) : List (Int × Int) := greatZ A (prsAt A B d lag)
theorem prsAt_mem {A B : List Row} {d lag : Int} {z : Int × Int} (h : z ∈ prsAt A B d lag) : ∃ (b r : Nat) (x y : Row), z = ((b : Int), (r : Int)) ∧ A[b]? = some x ∧ B[r]? = some y ∧ likeP x y = true ∧ lowP x y lag ≤ d ∧ d ≤ highP x y lag := by
  obtain ⟨h1, h2⟩ := List.mem_filter.mp h
  obtain ⟨b, r, x, y, rfl, hx, hy, lk⟩ := prsAll_mem h1
  have f : fitP x y d lag = true := by
    rw [← fitN_eq (d := d) (lag := lag) hx hy]
    exact h2
  have l := late_fit x y d lag
  unfold fitP at f
  rw [f, Bool.and_eq_true, decide_eq_true_eq, decide_eq_true_eq] at l
  exact ⟨b, r, x, y, rfl, hx, hy, lk, l.1, l.2⟩
theorem pe_of_at2 {K : PySem.W.Frag} {H : Hp} : ∀ {as : List Addr} {zs : List (Int × Int)}, At2 (PrAt K H) as zs → ∃ es : List Pe, es.map pv_ = as.map V.ref ∧ es.map (·.2) = zs ∧ PeAt K H es
  | _, _, .nil => ⟨[], rfl, rfl, fun _ z => nomatch z⟩
  | _, _, .cons (a := a) (x := x) h1 h2 => by
    obtain ⟨es, e1, e2, e3⟩ := pe_of_at2 h2
    refine ⟨(a, x) :: es, ?_, ?_, fun e he => ?_⟩
    · rw [List.map_cons, List.map_cons, e1]
      rfl
    · rw [List.map_cons, e2]
    · rcases List.mem_cons.mp he with q | q
      · rw [q]
        exact h1
      · exact e3 e q
def spJoining (Tl : List (Addr × Str)) (K : PySem.W.Frag) : Sp := fun vs H Q _ => ∃ (ta tb : Addr) (A B : List Row) (d lag : Int), vs = [.ref ta, .ref tb, .int d, .int lag] ∧ LogAt K H ta A ∧ LogAt K H tb B ∧ (∀ r ∈ A, r.Ok) ∧ (∀ r ∈ B, r.Ok) ∧ A.length ≤ 40 ∧ B.length ≤ 40 ∧ Tabs Tl H ∧
  ∀ H' q (os : List Pe), ExtN H H' → Tabs Tl H' → NewF H q → LsAt H' q os → PeAt K H' os → os.map (·.2) = joinZ A B d lag → Q (.ref q) H'
theorem ok_joining (T : Txt w K mg) (TB_levels_of : TabB base mg T.cc_levels_of (tabOf K T.cc_levels_of)) : FnOk P w K mg base CX0 7 T.a_joining T.d_joining ["bridge", "room", "d", "lag"] (spJoining (tabsT T) K) := by
  have G_pairs_at := ok_pairs_at (P := P) (base := base) T
  have G_greatest := ok_greatest (P := P) T TB_levels_of
  refine FunD_okN T.F_joining sc_joining (fun vs H Q E h => ?_) (fun cdv A' outer s H vs Q E hr h => ?_)
  · obtain ⟨ta, tb, A, B, d, lag, rfl, _⟩ := h
    rfl
  · obtain ⟨ta, tb, A, B, d, lag, rfl, hA, hB, oA, oB, lA, lB, tabs, k⟩ := h
    have hr_pairs_at := hr
    have hr_greatest := hr.mono (show 5 ≤ 6 by decide)
    refine ⟨_, (pss_one (ps_ret (pe_call G_greatest hr_greatest (by rfl) T.g_greatest T.F_greatest.kp T.b5_greatest T.v5_greatest pass0 (pa_cons (pv 0) (pa_cons (pv 1) (pa_cons (pe_call G_pairs_at hr_pairs_at (by rfl) T.g_pairs_at T.F_pairs_at.kp T.b4_pairs_at T.v4_pairs_at pass0 (pa_cons (pv 0) (pa_cons (pv 1) (pa_cons (pv 2) (pa_cons (pv 3) pa_nil))))) (pa_cons (pv 2) (pa_cons (pv 3) pa_nil)))))))), ?_⟩
    refine ⟨_, rfl, _, rfl, _, rfl, _, rfl, _, rfl, _, rfl, ta, tb, A, B, d, lag, rfl, hA, hB, oA, oB, lA, lB, fun H1 l as S1 n1 e1 h1 => ?_⟩
    obtain ⟨es, q1, q2, q3⟩ := pe_of_at2 h1
    have mem : ∀ e ∈ es, e.2 ∈ prsAt A B d lag := fun e he => by
      rw [← q2]
      exact List.mem_map.mpr ⟨e, he, rfl⟩
    have len : es.length ≤ 1600 := by
      have : es.length = (prsAt A B d lag).length := by rw [← q2, List.length_map]
      rw [this]
      exact Nat.le_trans (List.length_filter_le _ _) (prsAll_len lA lB)
    refine ⟨_, rfl, _, rfl, ta, l, _, _, _, A, es, rfl, hA.same S1, by rw [q1]; exact SqL.of e1, q3, fun e he => ?_, len, tabs.ext S1, fun H2 q x2 t2 nq eq => ?_⟩
    · obtain ⟨b, r, x, y, ez, hx, _⟩ := prsAt_mem (mem e he)
      exact ⟨b, x, by rw [ez], hx⟩
    · refine k H2 q (greatE A es) ((ExtN.of S1).trans x2) t2 (.ext (ExtN.of S1) nq) eq (fun e he => PeAt.ext q3 x2 e (great_mem he)) ?_
      rw [great_z, q2]
      rfl
/-- minutes that go up -/
def Rising : List Row → Prop := List.Pairwise fun r r2 => r.m ≤ r2.m
/-! ### rows, sorted by their minutes -/
theorem rows_keys {K : PySem.W.Frag} {H : Hp} {as : List Addr} {rs : List Row} (h : RowsAt K H as rs) (ok : ∀ r ∈ rs, r.Ok) : ∃ bs : List (Addr × Int), bs.map (·.1) = as ∧ ∀ b ∈ bs, ∃ r, RowAt K H b.1 r ∧ r.m = b.2 ∧ r.Ok := by
  induction h with
  | nil => exact ⟨[], rfl, fun _ z => nomatch z⟩
  | @cons a r as rs h1 _ ih =>
    obtain ⟨bs, e, h2⟩ := ih fun q hq => ok q (List.mem_cons_of_mem _ hq)
    refine ⟨(a, r.m) :: bs, by rw [List.map_cons, e], fun b hb => ?_⟩
    rcases List.mem_cons.mp hb with z | z
    · rw [z]
      exact ⟨r, h1, rfl, ok r (List.mem_cons_self ..)⟩
    · exact h2 b z
/-- rows at keyed places, sorted by their keys -/
theorem rows_byFst {K : PySem.W.Frag} {H : Hp} : ∀ {ks : List (Addr × Int)}, (∀ b ∈ ks, ∃ r, RowAt K H b.1 r ∧ r.m = b.2 ∧ r.Ok) → ks.Pairwise (fun a b => a.2 ≤ b.2) → ∃ rs, RowsAt K H (ks.map (·.1)) rs ∧ (∀ r ∈ rs, r.Ok) ∧ Rising rs ∧ ∀ r ∈ rs, ∃ b ∈ ks, r.m = b.2
  | [], _, _ => ⟨[], .nil, (fun _ z => nomatch z), List.Pairwise.nil, (fun _ z => nomatch z)⟩
  | k :: ks, h, s => by
    obtain ⟨r, h1, h2, h3⟩ := h k (List.mem_cons_self ..)
    have s' := List.pairwise_cons.mp s
    obtain ⟨rs, a1, a2, a3, a4⟩ := rows_byFst (fun b hb => h b (List.mem_cons_of_mem _ hb)) s'.2
    refine ⟨r :: rs, .cons h1 a1, fun q hq => ?_, .cons (fun q hq => ?_) a3, fun q hq => ?_⟩
    · rcases List.mem_cons.mp hq with z | z
      · rw [z]
        exact h3
      · exact a2 q z
    · obtain ⟨b, hb, e⟩ := a4 q hq
      rw [h2, e]
      exact s'.1 b hb
    · rcases List.mem_cons.mp hq with z | z
      · exact ⟨k, List.mem_cons_self .., by rw [z, h2]⟩
      · obtain ⟨b, hb, e⟩ := a4 q z
        exact ⟨b, List.mem_cons_of_mem _ hb, e⟩
theorem in_strs {x : Str} {ls : List Str} : inV (V.str x) (ls.map V.str) = decide (x ∈ ls) := by
  rw [Bool.eq_iff_iff, decide_eq_true_eq]
  induction ls with
  | nil => simp [inV]
  | cons y ys ih =>
    rw [List.map_cons, List.mem_cons, ← ih]
    simp only [inV, List.any_cons, eqV, Bool.or_eq_true, beq_iff_eq]
    constructor
    · rintro (z | z)
      · exact .inl z.symm
      · exact .inr z
    · rintro (z | z)
      · exact .inl z.symm
      · exact .inr z
/-! ### two logs of one life -/
def WOk (l : Str) (w : What) : Prop := (l ∈ tubes ∧ ∃ t, w = .name t ∧ TOk 8 t) ∨ (l ∉ tubes ∧ ∃ i, w = .order i ∧ -4 ≤ i ∧ i ≤ 4)
def acrossK : List (Key × V) := [(.inr "port", .str "star"), (.inr "star", .str "port"), (.inr "aport", .str "astar"), (.inr "astar", .str "aport"), (.inr "down", .str "down"), (.inr "up", .str "up")]
def swapL2 (l : Str) : Str := if l = "port" then "star" else if l = "star" then "port" else if l = "aport" then "astar" else if l = "astar" then "aport" else l
theorem across_get {l : Str} (h : l ∈ lines6) : valV acrossK (.inr l) = some (.str (swapL2 l)) ∧ swapL2 l ∈ lines6 ∧ (l ∈ tubes ↔ swapL2 l ∈ tubes) := by
  have h2 : l = "port" ∨ l = "star" ∨ l = "down" ∨ l = "aport" ∨ l = "astar" ∨ l = "up" := by simpa [lines6] using h
  rcases h2 with rfl | rfl | rfl | rfl | rfl | rfl <;> exact ⟨rfl, by decide +kernel, by decide +kernel⟩
theorem allB {p : Bool → Prop} (f : p false) (t : p true) : ∀ b, p b := fun b => by cases b <;> assumption
/-- both logs while they are made: Z, bs, rs of the bridge (false), of the room (true) -/
structure LifeS (K : PySem.W.Frag) (p c : Addr) (H0 : Hp) (N W O C G : Addr) (Z : Bool → Addr) (ls : List Str) (ws : List Str) (os : List Int) (bs : Bool → List Addr) (rs : Bool → List Row) (m : Nat) (H : Hp) : Prop where
  go : Go K p c H0 m H
  eN : SqT K H N (ls.map V.str)
  eW : H W = some (.lst (ws.map V.str))
  eO : H O = some (.lst (os.map V.int))
  eC : H C = some (.dK acrossK)
  eG : H G = some (.lst [.ref (Z false), .ref (Z true)])
  eZ : ∀ b, H (Z b) = some (.lst ((bs b).map V.ref))
  rZ : ∀ b, RowsAt K H (bs b) (rs b)
structure LifeN (p W O C G : Addr) (Z : Bool → Addr) : Prop where
  pW : W ≠ p
  pO : O ≠ p
  pC : C ≠ p
  pG : G ≠ p
  pZ : ∀ b, Z b ≠ p
  WZ : ∀ b, W ≠ Z b
  OZ : ∀ b, O ≠ Z b
  CZ : ∀ b, C ≠ Z b
  GZ : ∀ b, G ≠ Z b
  ZZ : Z false ≠ Z true
section
variable {K : PySem.W.Frag} {p c N W O C G a : Addr} {Z : Bool → Addr} {H0 H H1 : Hp} {ls ws : List Str} {os : List Int} {bs : Bool → List Addr} {rs : Bool → List Row} {m k : Nat} {r : Row}
theorem LifeS.mono (h : LifeS K p c H0 N W O C G Z ls ws os bs rs m H) (l : m ≤ k) : LifeS K p c H0 N W O C G Z ls ws os bs rs k H := { h with go := h.go.mono l }
theorem LifeS.same (h : LifeS K p c H0 N W O C G Z ls ws os bs rs m H) (S : Same H H1) : LifeS K p c H0 N W O C G Z ls ws os bs rs m H1 :=
  ⟨h.go.same S, same_seqT S h.eN, S _ _ h.eW, S _ _ h.eO, S _ _ h.eC, S _ _ h.eG, fun b => S _ _ (h.eZ b), fun b => (h.rZ b).same S⟩
theorem LifeS.step (h : LifeS K p c H0 N W O C G Z ls ws os bs rs m H) (n : LifeN p W O C G Z) (g : Go K p c H k H1) : LifeS K p c H0 N W O C G Z ls ws os bs rs k H1 :=
  ⟨h.go.trans g, seqT_go h.eN h.go.pen g.but, g.but _ _ n.pW h.eW, g.but _ _ n.pO h.eO, g.but _ _ n.pC h.eC, g.but _ _ n.pG h.eG, fun b => g.but _ _ (n.pZ b) (h.eZ b), fun b => (h.rZ b).go h.go.pen g.but⟩
def putB {α : Type} (f : Bool → List α) (b : Bool) (x : α) : Bool → List α := fun b2 => if b2 = b then f b ++ [x] else f b2
theorem LifeS.put (h : LifeS K p c H0 N W O C G Z ls ws os bs rs m H) (n : LifeN p W O C G Z) (b : Bool) (f : H0 (Z b) = none) (hc : Cells K H0 p c) (hr : RowAt K H a r) : LifeS K p c H0 N W O C G Z ls ws os (putB bs b a) (putB rs b r) m (upd H (Z b) (.lst ((bs b).map V.ref ++ [V.ref a]))) := by
  refine ⟨h.go.own f (n.pZ b) hc, seqT_lst h.eN (h.eZ b) But.put, (upd_ne (n.WZ b)).trans h.eW, (upd_ne (n.OZ b)).trans h.eO, (upd_ne (n.CZ b)).trans h.eC, (upd_ne (n.GZ b)).trans h.eG, fun b2 => ?_, fun b2 => ?_⟩
  · by_cases e : b2 = b
    · subst e
      rw [upd_same]
      unfold putB
      rw [if_pos rfl, List.map_append]
      rfl
    · have ne : Z b2 ≠ Z b := by
        cases b2 <;> cases b
        · exact absurd rfl e
        · exact n.ZZ
        · exact Ne.symm n.ZZ
        · exact absurd rfl e
      rw [upd_ne ne]
      unfold putB
      rw [if_neg e]
      exact h.eZ b2
  · unfold putB
    split
    · exact ((h.rZ b).snoc hr).lst (h.eZ b) But.put
    · exact (h.rZ b2).lst (h.eZ b) But.put
end
theorem putB_len {f : Bool → List Row} {b : Bool} {x : Row} {n : Nat} (h : (f b).length ≤ n) (h2 : (f (!b)).length ≤ n) : ∀ b2, (putB f b x b2).length ≤ n + 1 := fun b2 => by
  unfold putB
  split
  · rw [List.length_append]
    exact Nat.succ_le_succ h
  · cases b <;> cases b2 <;> first | exact Nat.le_succ_of_le h | exact Nat.le_succ_of_le h2
theorem putB_oth {f : Bool → List Row} {b : Bool} {x : Row} : putB f b x (!b) = f (!b) := by
  cases b <;> rfl
theorem putB_self {f : Bool → List Row} {b : Bool} {x : Row} : putB f b x b = f b ++ [x] := if_pos rfl
theorem putB_all {f : Bool → List Row} {b : Bool} {x : Row} {Q : Row → Prop} (h : ∀ b, ∀ r ∈ f b, Q r) (hx : Q x) : ∀ b2, ∀ r ∈ putB f b x b2, Q r := fun b2 r hr => by
  unfold putB at hr
  split at hr
  · rcases List.mem_append.mp hr with z | z
    · exact h b r z
    · rw [List.mem_singleton.mp z]
      exact hx
  · exact h b2 r hr
theorem keysP {K : PySem.W.Frag} {H : Hp} {Q : Row → Prop} {as : List Addr} {rs : List Row} (h : RowsAt K H as rs) (ok : ∀ r ∈ rs, Q r) : ∃ bs : List (Addr × Int), bs.map (·.1) = as ∧ ∀ b ∈ bs, ∃ r, RowAt K H b.1 r ∧ r.m = b.2 ∧ Q r := by
  induction h with
  | nil => exact ⟨[], rfl, fun _ z => nomatch z⟩
  | @cons a r as rs h1 _ ih =>
    obtain ⟨bs, e, h2⟩ := ih fun q hq => ok q (List.mem_cons_of_mem _ hq)
    refine ⟨(a, r.m) :: bs, by rw [List.map_cons, e], fun b hb => ?_⟩
    rcases List.mem_cons.mp hb with z | z
    · rw [z]
      exact ⟨r, h1, rfl, ok r (List.mem_cons_self ..)⟩
    · exact h2 b z
theorem byP {K : PySem.W.Frag} {H : Hp} {Q : Row → Prop} : ∀ {ks : List (Addr × Int)}, (∀ b ∈ ks, ∃ r, RowAt K H b.1 r ∧ r.m = b.2 ∧ Q r) → ks.Pairwise (fun a b => a.2 ≤ b.2) → ∃ rs, RowsAt K H (ks.map (·.1)) rs ∧ (∀ r ∈ rs, Q r) ∧ Rising rs ∧ ∀ r ∈ rs, ∃ b ∈ ks, r.m = b.2
  | [], _, _ => ⟨[], .nil, (fun _ z => nomatch z), List.Pairwise.nil, (fun _ z => nomatch z)⟩
  | k :: ks, h, s => by
    obtain ⟨r, h1, h2, h3⟩ := h k (List.mem_cons_self ..)
    have s' := List.pairwise_cons.mp s
    obtain ⟨rs, a1, a2, a3, a4⟩ := byP (fun b hb => h b (List.mem_cons_of_mem _ hb)) s'.2
    refine ⟨r :: rs, .cons h1 a1, fun q hq => ?_, .cons (fun q hq => ?_) a3, fun q hq => ?_⟩
    · rcases List.mem_cons.mp hq with z | z
      · rw [z]
        exact h3
      · exact a2 q z
    · obtain ⟨b, hb, e⟩ := a4 q hq
      rw [h2, e]
      exact s'.1 b hb
    · rcases List.mem_cons.mp hq with z | z
      · exact ⟨k, List.mem_cons_self .., by rw [z, h2]⟩
      · obtain ⟨b, hb, e⟩ := a4 q z
        exact ⟨b, List.mem_cons_of_mem _ hb, e⟩
/-- up to forty rows with keys, sorted -/
theorem byK {K : PySem.W.Frag} {H : Hp} {Q : Row → Prop} {ks : List (Addr × Int)} (h : ∀ b ∈ ks, ∃ r, RowAt K H b.1 r ∧ r.m = b.2 ∧ Q r) : ∃ rs, RowsAt K H ((byFst ks).map (·.1)) rs ∧ (∀ r ∈ rs, Q r) ∧ Rising rs ∧ rs.length = ks.length := by
  have perm := List.mergeSort_perm ks fun a b => decide (a.2 ≤ b.2)
  have srt : (byFst ks).Pairwise fun a b => a.2 ≤ b.2 := by
    have := List.pairwise_mergeSort (le := fun a b : Addr × Int => decide (a.2 ≤ b.2)) (fun a b c h1 h2 => decide_eq_true (Int.le_trans (of_decide_eq_true h1) (of_decide_eq_true h2))) (fun a b => by
      simp only [Bool.or_eq_true, decide_eq_true_eq]
      omega) ks
    exact this.imp fun h => of_decide_eq_true h
  obtain ⟨rs', h1, h2, h3, _⟩ := byP (K := K) (H := H) (ks := byFst ks) (fun b hb => h b (perm.mem_iff.mp hb)) srt
  refine ⟨rs', h1, h2, h3, ?_⟩
  have z := h1.length
  rw [List.length_map] at z
  exact z.symm.trans perm.length_eq
theorem cut40 (as : List Addr) : cutV (as.map V.ref) none (some 40) = (as.take (min 40 as.length)).map V.ref := by
  show cutV _ none (some ((40 : Nat) : Int)) = _
  unfold cutV
  rw [HT.sIx_none, HT.sIx_nat, List.drop_zero, Nat.sub_zero, List.length_map, List.map_take]
def shR (d : Int) (r : Row) : Row := ⟨r.m + d, r.l, r.w⟩
def spLife (Tl : List (Addr × Str)) (K : PySem.W.Frag) : Sp := fun vs H Q _ => ∃ (p c : Addr) (n : Nat) (most : Int), vs = [.ref p, .int most] ∧ PenAt H p c n ∧ Cells K H p c ∧ n ≤ 800000 ∧ 1 ≤ most ∧ most ≤ 40 ∧ Tabs Tl H ∧
  ∀ H' u ta tb (gap late : Int) (A B : List Row), GoN K Tl p c H (n + 500) H' → SqT K H' u [.ref ta, .ref tb, .int gap, .int late] → LogAt K H' ta A → LogAt K H' tb B → A.length ≤ 40 → B.length ≤ 40 → (∀ r ∈ A, r.Ok) → (∀ r ∈ B, r.Ok) → Rising A → Rising B → -1440 ≤ gap → gap ≤ 1440 → 0 ≤ late → late ≤ 60 → Q (.ref u) H'
theorem ok_life (T : Txt w K mg) (TB_life : TabB base mg T.cc_life (tabOf K T.cc_life)) : FnOk P w K mg base CX0 3 T.a_life T.d_life ["_law_pen_here", "_law_most"] (spLife (tabsT T) K) := by
  have G_draw := ok_draw (P := P) (base := base) T
  have G_pick := ok_pick (P := P) (base := base) T
  refine okC T.F_life T.cd_life sc_life (fun vs H Q E h => ?_) (fun A outer s H vs Q E hr h => ?_)
  · obtain ⟨p, c, n, most, rfl, _⟩ := h
    rfl
  · obtain ⟨p, c, n, most, rfl, hp, hc, hn, m0, m1, tabs, k⟩ := h
    have hr_draw := hr.mono (show 1 ≤ 2 by decide)
    have hr_pick := hr
    have hr_lam : Room (0 + 2) _ := hr
    refine ⟨_, (pss_cons (ps_set (i := 2) sc_life.nd rfl (by first | exact Or.inl rfl | exact Or.inr rfl) (pe_call G_pick hr_pick (by rfl) T.g_pick T.F_pick.kp T.b_pick .nil pass0 (pa_cons (pv 0) (pa_cons (pe_lst (pa_cons pe_int (pa_cons (pe_op op_sub (pe_call G_draw hr_draw (by rfl) T.g_draw T.F_draw.kp T.b_draw .nil pass0 (pa_cons (pv 0) (pa_cons pe_int pa_nil))) pe_int) (pa_cons (pe_op op_sub (pe_call G_draw hr_draw (by rfl) T.g_draw T.F_draw.kp T.b_draw .nil pass0 (pa_cons (pv 0) (pa_cons pe_int pa_nil))) pe_int) (pa_cons (pe_op op_sub (pe_call G_draw hr_draw (by rfl) T.g_draw T.F_draw.kp T.b_draw .nil pass0 (pa_cons (pv 0) (pa_cons pe_int pa_nil))) pe_int) pa_nil))))) pa_nil))))
  (pss_cons (ps_set (i := 3) sc_life.nd rfl (by first | exact Or.inl rfl | exact Or.inr rfl) (pe_call G_pick hr_pick (by rfl) T.g_pick T.F_pick.kp T.b_pick .nil pass0 (pa_cons (pv 0) (pa_cons (pe_lst (pa_cons pe_int (pa_cons (pe_op op_add pe_int (pe_call G_draw hr_draw (by rfl) T.g_draw T.F_draw.kp T.b_draw .nil pass0 (pa_cons (pv 0) (pa_cons pe_int pa_nil)))) (pa_cons (pe_call G_draw hr_draw (by rfl) T.g_draw T.F_draw.kp T.b_draw .nil pass0 (pa_cons (pv 0) (pa_cons pe_int pa_nil))) (pa_cons pe_int pa_nil))))) pa_nil))))
  (pss_cons (ps_par (i := 4) (j := 5) rfl sc_life.nd rfl rfl (by decide) rfl rfl (pa_cons (pe_callB (call_max2 rfl) (by rfl) T.z_max (by decide +kernel) (pa_cons pe_int (pa_cons (pe_op op_sub pe_int (pv 2)) pa_nil))) (pa_cons (pe_callB (call_min2 rfl) (by rfl) T.z_min (by decide +kernel) (pa_cons pe_int (pa_cons (pe_op op_sub pe_int (pv 2)) pa_nil))) pa_nil)) rfl)
  (pss_cons (ps_set (i := 6) sc_life.nd rfl (by first | exact Or.inl rfl | exact Or.inr rfl) (pe_call G_pick hr_pick (by rfl) T.g_pick T.F_pick.kp T.b_pick .nil pass0 (pa_cons (pv 0) (pa_cons (pe_lst (pa_cons (pv 4) (pa_cons (pe_op op_add (pv 4) (pe_call G_draw hr_draw (by rfl) T.g_draw T.F_draw.kp T.b_draw .nil pass0 (pa_cons (pv 0) (pa_cons pe_int pa_nil)))) (pa_cons (pe_op op_sub (pv 5) (pe_call G_draw hr_draw (by rfl) T.g_draw T.F_draw.kp T.b_draw .nil pass0 (pa_cons (pv 0) (pa_cons pe_int pa_nil)))) pa_nil)))) pa_nil))))
  (pss_cons (ps_set (i := 7) sc_life.nd rfl (by first | exact Or.inl rfl | exact Or.inr rfl) (pe_tup (pa_cons pe_str (pa_cons pe_str (pa_cons pe_str (pa_cons pe_str (pa_cons pe_str (pa_cons pe_str pa_nil))))))))
  (pss_cons (ps_set (i := 8) sc_life.nd rfl (by first | exact Or.inl rfl | exact Or.inr rfl) (pe_call G_pick hr_pick (by rfl) T.g_pick T.F_pick.kp T.b_pick .nil pass0 (pa_cons (pv 0) (pa_cons (pe_lst (pa_cons (pv 7) (pa_cons (pv 7) (pa_cons (pe_tup (pa_cons pe_str (pa_cons pe_str pa_nil))) (pa_cons (pe_tup (pa_cons pe_str (pa_cons pe_str (pa_cons pe_str pa_nil)))) pa_nil))))) pa_nil))))
  (pss_cons (ps_set (i := 9) sc_life.nd rfl (by first | exact Or.inl rfl | exact Or.inr rfl) (pe_lst (pa_cons pe_str (pa_cons (pe_slice sl_str pe_str po_none (po_some (pe_op op_add pe_int (pe_call G_draw hr_draw (by rfl) T.g_draw T.F_draw.kp T.b_draw .nil pass0 (pa_cons (pv 0) (pa_cons pe_int pa_nil)))))) pa_nil))))
  (pss_cons (ps_setLc (i := 10) (own := [("_law_k", 13)]) rfl sc_life.nd rfl rfl (sw_true rfl rfl rfl (by decide +kernel)) (pi_range1 (by rfl) T.z_range (pa_cons (pe_op op_add pe_int (pe_call G_draw hr_draw (by rfl) T.g_draw T.F_draw.kp T.b_draw .nil pass0 (pa_cons (pv 0) (pa_cons pe_int pa_nil)))) pa_nil)) (blkOk_by (own := [("_law_k", 13)]) (N := ["_law_pen_here", "_law_most", "_law_gap", "_law_late", "_law_low", "_law_high", "_law_now", "_law_every", "_law_lines", "_law_words", "_law_orders", "_law_across", "_law_logs", "_law_k", "_law_line", "_law_what", "_law_house", "_law_way", "_law_came", "_law_above", "_law_below", "_law_time"]) (sc := defScope s_life) (by decide +kernel)) (fun _ _ _ _ _ => (pg_name (i := 13) sc_life.nd rfl (by first | exact Or.inl rfl | exact Or.inr rfl))) (fun _ _ _ _ _ => pts_nil) (fun _ _ _ _ _ => (pe_op op_sub (pe_call G_draw hr_draw (by rfl) T.g_draw T.F_draw.kp T.b_draw .nil pass0 (pa_cons (pv 0) (pa_cons pe_int pa_nil))) pe_int)))
  (pss_cons (ps_set (i := 11) sc_life.nd rfl (by first | exact Or.inl rfl | exact Or.inr rfl) (pe_disp (pps_cons pe_str pe_str (pps_cons pe_str pe_str (pps_cons pe_str pe_str (pps_cons pe_str pe_str (pps_cons pe_str pe_str (pps_cons pe_str pe_str pps_nil)))))) (by rfl) (by rfl) (fun z => by cases z) (by decide)))
  (pss_cons (ps_set (i := 12) sc_life.nd rfl (by first | exact Or.inl rfl | exact Or.inr rfl) (pe_lst (pa_cons (pe_lst pa_nil) (pa_cons (pe_lst pa_nil) pa_nil))))
  (pss_cons (ps_for PassesOwn.never rfl (pi_range1 (by rfl) T.z_range (pa_cons (pe_ix (kx_list K) (pe_lst (pa_cons (pe_call G_draw hr_draw (by rfl) T.g_draw T.F_draw.kp T.b_draw .nil pass0 (pa_cons (pv 0) (pa_cons (pe_op op_add (pv 1) pe_int) pa_nil))) (pa_cons (pv 1) pa_nil))) (pe_call G_draw hr_draw (by rfl) T.g_draw T.F_draw.kp T.b_draw .nil pass0 (pa_cons (pv 0) (pa_cons pe_int pa_nil))) (fun _ _ => rfl)) pa_nil)) (pg_name (i := 13) sc_life.nd rfl (by first | exact Or.inl rfl | exact Or.inr rfl)) (pss_cons (ps_set (i := 6) sc_life.nd rfl (by first | exact Or.inl rfl | exact Or.inr rfl) (pe_callB (call_min2 rfl) (by rfl) T.z_min (by decide +kernel) (pa_cons (pv 5) (pa_cons (pe_op op_add (pv 6) (pe_ix (kx_list K) (pe_lst (pa_cons pe_int (pa_cons pe_int (pa_cons pe_int (pa_cons (pe_call G_draw hr_draw (by rfl) T.g_draw T.F_draw.kp T.b_draw .nil pass0 (pa_cons (pv 0) (pa_cons pe_int pa_nil))) (pa_cons (pe_call G_draw hr_draw (by rfl) T.g_draw T.F_draw.kp T.b_draw .nil pass0 (pa_cons (pv 0) (pa_cons pe_int pa_nil))) pa_nil)))))) (pe_call G_draw hr_draw (by rfl) T.g_draw T.F_draw.kp T.b_draw .nil pass0 (pa_cons (pv 0) (pa_cons pe_int pa_nil))) (fun _ _ => rfl))) pa_nil))))
  (pss_cons (ps_set (i := 14) sc_life.nd rfl (by first | exact Or.inl rfl | exact Or.inr rfl) (pe_call G_pick hr_pick (by rfl) T.g_pick T.F_pick.kp T.b_pick .nil pass0 (pa_cons (pv 0) (pa_cons (pv 8) pa_nil))))
  (pss_cons (ps_set (i := 15) sc_life.nd rfl (by first | exact Or.inl rfl | exact Or.inr rfl) (pe_call G_pick hr_pick (by rfl) T.g_pick T.F_pick.kp T.b_pick .nil pass0 (pa_cons (pv 0) (pa_cons (pe_ix (kx_list K) (pe_lst (pa_cons (pv 10) (pa_cons (pv 9) pa_nil))) (pe_callTy call_int1 (by rfl) T.z_int (by decide +kernel) (pa_cons (pe_cmpR (k_in K) (pv 14) (pe_tup (pa_cons pe_str (pa_cons pe_str pa_nil))) (by rfl)) pa_nil)) (fun _ _ => rfl)) pa_nil))))
  (pss_cons (ps_set (i := 16) sc_life.nd rfl (by first | exact Or.inl rfl | exact Or.inr rfl) (pe_callTy call_int1 (by rfl) T.z_int (by decide +kernel) (pa_cons (pe_cmpR (k_in K) (pv 14) (pe_tup (pa_cons pe_str (pa_cons pe_str (pa_cons pe_str pa_nil)))) (by rfl)) pa_nil)))
  (pss_cons (ps_set (i := 17) sc_life.nd rfl (by first | exact Or.inl rfl | exact Or.inr rfl) (pe_call G_draw hr_draw (by rfl) T.g_draw T.F_draw.kp T.b_draw .nil pass0 (pa_cons (pv 0) (pa_cons pe_int pa_nil))))
  (pss_cons (ps_set (i := 18) sc_life.nd rfl (by first | exact Or.inl rfl | exact Or.inr rfl) (pe_callB (call_min2 rfl) (by rfl) T.z_min (by decide +kernel) (pa_cons (pv 5) (pa_cons (pe_op op_add (pv 6) (pe_call G_draw hr_draw (by rfl) T.g_draw T.F_draw.kp T.b_draw .nil pass0 (pa_cons (pv 0) (pa_cons (pe_op op_add (pv 3) pe_int) pa_nil)))) pa_nil))))
  (C8.pss_cut (ps_if (pt_cmpR op_ne (pv 17) pe_int (nomark _)) (pss_one (ps_expr (pe_bm PySem.F.plainAttrs_list PySem.F.slot_list_append PySem.F.type_list_append mt_append (pe_ix (kx_list K) (pv 12) (pv 16) (fun _ _ => rfl)) (pa_cons (pe_tup (pa_cons (pv 6) (pa_cons (pv 14) (pa_cons (pv 15) pa_nil)))) pa_nil)))) pss_nil)
  (C8.pss_cut (ps_if (pt_cmpR op_eq (pv 17) pe_int (nomark _)) (pss_one (ps_set (i := 14) sc_life.nd rfl (by first | exact Or.inl rfl | exact Or.inr rfl) (pe_dget (hu_of hr) (pv 11) (pv 14) (fun _ _ => rfl)))) pss_nil)
  (C8.pss_cut (ps_if (pt_cmpR op_ne (pv 17) pe_int (nomark _)) (pss_one (ps_expr (pe_bm PySem.F.plainAttrs_list PySem.F.slot_list_append PySem.F.type_list_append mt_append (pe_ix (kx_list K) (pv 12) (pe_op op_sub pe_int (pv 16)) (fun _ _ => rfl)) (pa_cons (pe_tup (pa_cons (pv 18) (pa_cons (pv 14) (pa_cons (pv 15) pa_nil)))) pa_nil)))) pss_nil)
  (pss_one (ps_if (pt_cmpR op_eq (pv 17) pe_int (nomark _)) (pss_one (ps_expr (pe_bm PySem.F.plainAttrs_list PySem.F.slot_list_append PySem.F.type_list_append mt_append (pe_ix (kx_list K) (pv 12) (pe_op op_sub pe_int (pv 16)) (fun _ _ => rfl)) (pa_cons (pe_tup (pa_cons (pe_callB (call_min2 rfl) (by rfl) T.z_min (by decide +kernel) (pa_cons (pv 5) (pa_cons (pe_op op_add (pv 18) (pe_call G_draw hr_draw (by rfl) T.g_draw T.F_draw.kp T.b_draw .nil pass0 (pa_cons (pv 0) (pa_cons (pe_op op_add (pv 3) pe_int) pa_nil)))) pa_nil))) (pa_cons (pv 14) (pa_cons (pv 15) pa_nil)))) pa_nil)))) pss_nil))))))))))))
  (pss_cons (ps_set (i := 19) sc_life.nd rfl (by first | exact Or.inl rfl | exact Or.inr rfl) (pe_sortR K (by rfl) T.z_sorted TB_life rfl (tab_in_life T) (tab_un_life T) hr_lam (pe_slice (k_slL K) (pe_ix (kx_list K) (pv 12) pe_int (fun _ _ => rfl)) po_none (po_some pe_int))))
  (pss_cons (ps_set (i := 20) sc_life.nd rfl (by first | exact Or.inl rfl | exact Or.inr rfl) (pe_sortR K (by rfl) T.z_sorted TB_life rfl (tab_in_life T) (tab_un_life T) hr_lam (pe_slice (k_slL K) (pe_ix (kx_list K) (pv 12) pe_int (fun _ _ => rfl)) po_none (po_some pe_int))))
  (pss_one (ps_ret (pe_tup (pa_cons (pe_callTy (k_tupOf K) (by rfl) T.z_tuple (by decide +kernel) (pa_cons (pv 19) pa_nil)) (pa_cons (pe_callTy (k_tupOf K) (by rfl) T.z_tuple (by decide +kernel) (pa_cons (pe_lc (own := [("_law_time", 21), ("_law_line", 14), ("_law_what", 15)]) rfl sc_life.nd (k_piL K (pv 20)) (blkOk_by (own := [("_law_time", 21), ("_law_line", 14), ("_law_what", 15)]) (N := ["_law_pen_here", "_law_most", "_law_gap", "_law_late", "_law_low", "_law_high", "_law_now", "_law_every", "_law_lines", "_law_words", "_law_orders", "_law_across", "_law_logs", "_law_k", "_law_line", "_law_what", "_law_house", "_law_way", "_law_came", "_law_above", "_law_below", "_law_time"]) (sc := defScope s_life) (by decide +kernel)) (fun _ _ _ _ _ => (k_pgT (n := 3) K rfl (pgs_cons (pg_name (i := 21) sc_life.nd rfl (by first | exact Or.inl rfl | exact Or.inr rfl)) (pgs_cons (pg_name (i := 14) sc_life.nd rfl (by first | exact Or.inl rfl | exact Or.inr rfl)) (pgs_cons (pg_name (i := 15) sc_life.nd rfl (by first | exact Or.inl rfl | exact Or.inr rfl)) pgs_nil))))) (fun _ _ _ _ _ => pts_nil) (fun _ _ _ _ _ => (pe_tup (pa_cons (pe_op op_add (pv 21) (pv 2)) (pa_cons (pv 14) (pa_cons (pv 15) pa_nil)))))) pa_nil)) (pa_cons (pv 2) (pa_cons (pv 3) pa_nil)))))))))))))))))))), ?_⟩
    have g0 := Go.refl hp hc
    refine ⟨_, rfl, _, rfl, p, c, _, _, rfl, hp, hc, by omega, by decide, by decide, fun H1 r1 g1 a1 b1 => ?_⟩
    refine ⟨_, _, rfl, rfl, _, rfl, p, c, _, _, rfl, g1.pen, g1.cel, by omega, by decide, by decide, fun H2 r2 g2 a2 b2 => ?_⟩
    have G2 := g1.trans g2
    refine ⟨_, _, rfl, rfl, _, rfl, p, c, _, _, rfl, G2.pen, G2.cel, by omega, by decide, by decide, fun H3 r3 g3 a3 b3 => ?_⟩
    have G3 := G2.trans g3
    refine ⟨_, _, rfl, rfl, (by show 4 ≤ sizeLine; decide), fun l1 hl1 => ?_⟩
    generalize hX : upd H3 l1 _ = H4
    obtain ⟨S4, f4⟩ := alloc hl1 hX
    clear hX
    have G4 := G3.same S4
    have n1 := Ne.symm (G3.ne_new hl1)
    refine ⟨p, c, l1, _, _, rfl, G4.pen, G4.cel, by omega, .inl ⟨SqL.of f4, n1⟩, (by simp), (by show 4 ≤ 1000000; decide), fun H5 v5 g5 m5 => ?_⟩
    have G5 := G4.trans g5
    obtain ⟨gap, rfl, e0, e1⟩ : ∃ z : Int, v5 = .int z ∧ -1440 ≤ z ∧ z ≤ 1440 := by
      simp only [List.mem_cons, List.not_mem_nil, or_false] at m5
      rcases m5 with q | q | q | q <;> exact ⟨_, q, by omega, by omega⟩
    -- the lag
    refine ⟨_, rfl, _, rfl, p, c, _, _, rfl, G5.pen, G5.cel, by omega, by decide, by decide, fun H6 r6 g6 a6 b6 => ?_⟩
    have G6 := G5.trans g6
    refine ⟨_, _, rfl, rfl, _, rfl, p, c, _, _, rfl, G6.pen, G6.cel, by omega, by decide, by decide, fun H7 r7 g7 a7 b7 => ?_⟩
    have G7 := G6.trans g7
    refine ⟨(by show 4 ≤ sizeLine; decide), fun l2 hl2 => ?_⟩
    generalize hX : upd H7 l2 _ = H8
    obtain ⟨S8, f8⟩ := alloc hl2 hX
    clear hX
    have G8 := G7.same S8
    have n2 := Ne.symm (G7.ne_new hl2)
    refine ⟨p, c, l2, _, _, rfl, G8.pen, G8.cel, by omega, .inl ⟨SqL.of f8, n2⟩, (by simp), (by show 4 ≤ 1000000; decide), fun H9 v9 g9 m9 => ?_⟩
    have G9 := G8.trans g9
    obtain ⟨late, rfl, s0, s1⟩ : ∃ z : Int, v9 = .int z ∧ 0 ≤ z ∧ z ≤ 60 := by
      simp only [List.mem_cons, List.not_mem_nil, or_false] at m9
      rcases m9 with q | q | q | q <;> exact ⟨_, q, by omega, by omega⟩
    -- the first and the last minute
    refine ⟨_, rfl, _, _, rfl, rfl, _, _, rfl, ?_⟩
    refine ⟨_, rfl, _, _, rfl, rfl, _, _, rfl, ?_⟩
    refine ⟨_, _, rfl, ?_⟩
    obtain ⟨low, hlow, w0⟩ : ∃ z : Int, (if 0 - gap > 0 then 0 - gap else 0) = z ∧ 0 ≤ z ∧ 0 ≤ z + gap ∧ z ≤ 1440 := ⟨_, rfl, by split <;> omega, by split <;> omega, by split <;> omega⟩
    obtain ⟨high, hhigh, w1⟩ : ∃ z : Int, (if 99999 - gap < 99999 then 99999 - gap else 99999) = z ∧ z ≤ 99999 ∧ z + gap ≤ 99999 ∧ 98559 ≤ z := ⟨_, rfl, by split <;> omega, by split <;> omega, by split <;> omega⟩
    rw [hlow, hhigh]
    -- the first minute
    refine ⟨_, rfl, _, rfl, _, rfl, _, rfl, p, c, _, _, rfl, G9.pen, G9.cel, by omega, by decide, by decide, fun H10 r10 g10 a10 b10 => ?_⟩
    have G10 := G9.trans g10
    refine ⟨_, _, rfl, rfl, _, rfl, _, rfl, p, c, _, _, rfl, G10.pen, G10.cel, by omega, by decide, by decide, fun H11 r11 g11 a11 b11 => ?_⟩
    have G11 := G10.trans g11
    refine ⟨_, _, rfl, rfl, (by show 3 ≤ sizeLine; decide), fun l3 hl3 => ?_⟩
    generalize hX : upd H11 l3 _ = H12
    obtain ⟨S12, f12⟩ := alloc hl3 hX
    clear hX
    have G12 := G11.same S12
    have n3 := Ne.symm (G11.ne_new hl3)
    refine ⟨p, c, l3, _, _, rfl, G12.pen, G12.cel, by omega, .inl ⟨SqL.of f12, n3⟩, (by simp), (by show 3 ≤ 1000000; decide), fun H13 v13 g13 m13 => ?_⟩
    have G13 := G12.trans g13
    obtain ⟨now, rfl, tl0, th0⟩ : ∃ z : Int, v13 = .int z ∧ low ≤ z ∧ z ≤ high := by
      simp only [List.mem_cons, List.not_mem_nil, or_false] at m13
      rcases m13 with q | q | q <;> exact ⟨_, q, by omega, by omega⟩
    -- the lines
    refine ⟨(by show 6 ≤ sizeLine; decide), fun E hE => ?_⟩
    generalize hX : upd H13 E _ = H14
    obtain ⟨S14, f14⟩ := alloc hE hX
    clear hX
    have G14 := G13.same S14
    refine ⟨_, rfl, _, rfl, _, rfl, (by show 2 ≤ sizeLine; decide), fun t1 ht1 => ?_⟩
    generalize hX : upd H14 t1 _ = H15
    obtain ⟨S15, f15⟩ := alloc ht1 hX
    clear hX
    refine ⟨(by show 3 ≤ sizeLine; decide), fun t2 ht2 => ?_⟩
    generalize hX : upd H15 t2 _ = H16
    obtain ⟨S16, f16⟩ := alloc ht2 hX
    clear hX
    refine ⟨(by show 4 ≤ sizeLine; decide), fun l4 hl4 => ?_⟩
    generalize hX : upd H16 l4 _ = H17
    obtain ⟨S17, f17⟩ := alloc hl4 hX
    clear hX
    have G16 := (G14.same S15).same S16
    have G17 := G16.same S17
    have n4 := Ne.symm (G16.ne_new hl4)
    refine ⟨p, c, l4, _, _, rfl, G17.pen, G17.cel, by omega, .inl ⟨SqL.of f17, n4⟩, (by simp), (by show 4 ≤ 1000000; decide), fun H18 v18 g18 m18 => ?_⟩
    have G18 := G17.trans g18
    obtain ⟨N, ls, rfl, eN, ll1, kl⟩ : ∃ (N : Addr) (ls : List Str), v18 = .ref N ∧ SqT K H17 N (ls.map V.str) ∧ ls ≠ [] ∧ ls.length ≤ 6 ∧ ∀ l ∈ ls, l ∈ lines6 := by
      simp only [List.mem_cons, List.not_mem_nil, or_false] at m18
      rcases m18 with q | q | q | q
      · exact ⟨_, ["port", "star", "down", "aport", "astar", "up"], q, SqT.of (S17 _ _ (S16 _ _ (S15 _ _ f14))), by simp, by decide, fun l h => h⟩
      · exact ⟨_, ["port", "star", "down", "aport", "astar", "up"], q, SqT.of (S17 _ _ (S16 _ _ (S15 _ _ f14))), by simp, by decide, fun l h => h⟩
      · exact ⟨_, ["port", "aport"], q, SqT.of (S17 _ _ (S16 _ _ f15)), by simp, by decide, by decide +kernel⟩
      · exact ⟨_, ["port", "star", "aport"], q, SqT.of (S17 _ _ f16), by simp, by decide, by decide +kernel⟩
    have eN18 := seqT_go eN G17.pen g18.but
    -- the words
    refine ⟨_, rfl, p, c, _, _, rfl, G18.pen, G18.cel, by omega, by decide, by decide, fun H19 r19 g19 a19 b19 => ?_⟩
    have G19 := G18.trans g19
    have eN19 := seqT_go eN18 G18.pen g19.but
    have tok : TOk 8 (cutS "stop" none (some (1 + r19))) := by
      have : r19 = 0 ∨ r19 = 1 ∨ r19 = 2 ∨ r19 = 3 := by omega
      rcases this with rfl | rfl | rfl | rfl <;> exact ⟨by decide +kernel, by decide +kernel⟩
    refine ⟨_, _, rfl, rfl, _, rfl, _, rfl, (by decide +kernel), (by show 2 ≤ sizeLine; decide), fun W hW => ?_⟩
    generalize hX : upd H19 W _ = H20
    obtain ⟨S20, f20⟩ := alloc hW hX
    clear hX
    have G20 := G19.same S20
    have pW := Ne.symm (G19.ne_new hW)
    have eN20 := same_seqT S20 eN19
    -- the orders
    refine ⟨_, rfl, p, c, _, _, rfl, G20.pen, G20.cel, by omega, by decide, by decide, fun H21 r21 g21 a21 b21 => ?_⟩
    have G21 := G20.trans g21
    have eN21 := seqT_go eN20 G20.pen g21.but
    have eW21 := g21.but _ _ pW f20
    refine ⟨_, _, rfl, rfl, ?_⟩
    refine ⟨_, rfl, by omega, by omega, fun O hO => ?_⟩
    have nO := Ne.symm (G21.ne_new hO)
    refine lc_it walk_range (fun i H' => Go K p c H21 (n + 14 + i) H' ∧ ∃ os : List Int, H' O = some (.lst (os.map V.int)) ∧ os.length = i ∧ ∀ x ∈ os, -4 ≤ x ∧ x ≤ 4)
      ⟨(G21.self.new hO).mono (by omega), [], upd_same, rfl, fun _ z => nomatch z⟩ (fun _ _ _ _ => trivial) ?_ ?_
    · rintro i x _ Ha hi ⟨ga, os, ea, lo, oo⟩ ⟨rfl, rfl⟩
      have hi3 : i < 3 := by omega
      refine ⟨rfl, _, rfl, p, c, _, _, rfl, ga.pen, ga.cel, by omega, by decide, by decide, fun Hb r gb a2 b2 => ?_⟩
      refine ⟨_, _, rfl, rfl, _, gb.but _ _ nO ea, by rw [List.length_map, lo]; exact small1000 (by omega), ?_⟩
      refine ⟨((ga.trans gb).own hO nO G21.cel).mono (by omega), os ++ [r - 4], by rw [upd_same, List.map_append]; rfl, by rw [List.length_append, lo]; rfl, fun y hy => ?_⟩
      rcases List.mem_append.mp hy with q | q
      · exact oo y q
      · rw [List.mem_singleton.mp q]
        omega
    · rintro H22 ⟨g22, os, eO22, lo, ko⟩
      have l3 : os.length ≤ 3 := by omega
      have no : os ≠ [] := fun z => by
        rw [z] at lo
        have : (0 : Nat) = _ := lo
        omega
      have G22 := G21.trans g22
      have eN22 := seqT_go eN21 G21.pen g22.but
      have eW22 := g22.but _ _ pW eW21
      -- across
      intro C hC
      refine ⟨upd_same, acrossK, rfl, by show 6 ≤ 15; decide, ?_⟩
      generalize hX : upd (upd H22 C _) C _ = H23
      obtain ⟨S23, f23⟩ := owned (same_new (Same.refl _) hC) hC hX
      clear hX
      have G23 := G22.same S23
      have pC := Ne.symm (G22.ne_new hC)
      -- the logs
      refine ⟨(by show 0 ≤ sizeLine; decide), fun z0 hz0 => ?_⟩
      generalize hX : upd H23 z0 _ = H24
      obtain ⟨S24, f24⟩ := alloc hz0 hX
      clear hX
      have G24 := G23.same S24
      have pz0 := Ne.symm (G23.ne_new hz0)
      refine ⟨(by show 0 ≤ sizeLine; decide), fun z1 hz1 => ?_⟩
      generalize hX : upd H24 z1 _ = H25
      obtain ⟨S25, f25⟩ := alloc hz1 hX
      clear hX
      have G25 := G24.same S25
      have pz1 := Ne.symm (G24.ne_new hz1)
      refine ⟨(by show 2 ≤ sizeLine; decide), fun G hG => ?_⟩
      generalize hX : upd H25 G _ = H26
      obtain ⟨S26, f26⟩ := alloc hG hX
      clear hX
      have G26 := G25.same S26
      have pG := Ne.symm (G25.ne_new hG)
      have S23' := S24.trans (S25.trans S26)
      have f26' := S25.trans S26 _ _ f24
      have f26'' := S26 _ _ f25
      have eN26 := same_seqT (S23.trans S23') eN22
      have eW26 := S23.trans S23' _ _ eW22
      have eO26 := S23.trans S23' _ _ eO22
      have eC26 := S23' _ _ f23
      have fr0 := G23.free hz0
      have fr1 := G24.free hz1
      have q0 : W ≠ z0 ∧ O ≠ z0 ∧ C ≠ z0 ∧ G ≠ z0 ∧ z0 ≠ z1 := ⟨ne_of_none (S23 _ _ eW22) hz0, ne_of_none (S23 _ _ eO22) hz0, ne_of_none f23 hz0, Ne.symm (ne_of_none (S25 _ _ f24) hG), ne_of_none f24 hz1⟩
      have q1 : W ≠ z1 ∧ O ≠ z1 ∧ C ≠ z1 ∧ G ≠ z1 := ⟨ne_of_none (S24 _ _ (S23 _ _ eW22)) hz1, ne_of_none (S24 _ _ (S23 _ _ eO22)) hz1, ne_of_none (S24 _ _ f23) hz1, Ne.symm (ne_of_none f25 hG)⟩
      have pO : O ≠ p := nO
      obtain ⟨Z, hZ0, hZ1⟩ : ∃ Z : Bool → Addr, Z false = z0 ∧ Z true = z1 := ⟨fun b => bif b then z1 else z0, rfl, rfl⟩
      subst hZ0 hZ1
      have NN : LifeN p W O C G Z := by
        exact ⟨pW, pO, pC, pG, allB pz0 pz1, allB q0.1 q1.1, allB q0.2.1 q1.2.1, allB q0.2.2.1 q1.2.2.1, allB q0.2.2.2.1 q1.2.2.2, q0.2.2.2.2⟩
      have frZ : ∀ b, H (Z b) = none := allB fr0 fr1
      have Z0 : LifeS K p c H N W O C G Z ls ["up", cutS "stop" none (some (1 + r19))] os (fun _ => []) (fun _ => []) (n + 20) H26 := ⟨G26.mono (by omega), eN26, eW26, eO26, eC26, f26, allB f26' f26'', fun _ => .nil⟩
      generalize hws : (["up", cutS "stop" none (some (1 + r19))] : List Str) = ws at Z0
      have kw : ws ≠ [] ∧ ws.length ≤ 2 ∧ ∀ x ∈ ws, TOk 8 x := by
        rw [← hws]
        refine ⟨by simp, (by show 2 ≤ 2; exact Nat.le_refl _), fun x hx => ?_⟩
        have : x = ("up" : Str) ∨ x = cutS "stop" none (some (1 + r19)) := by simpa using hx
        rcases this with rfl | rfl
        · exact ⟨by decide +kernel, by decide +kernel⟩
        · exact tok
      clear hws
      -- how many
      refine ⟨_, rfl, _, rfl, _, _, rfl, rfl, p, c, _, _, rfl, Z0.go.pen, Z0.go.cel, by omega, by omega, by omega, fun H27 r27 g27 a27 b27 => ?_⟩
      have Z1 := Z0.step NN g27
      refine ⟨_, rfl, (by show 2 ≤ sizeLine; decide), fun l5 hl5 => ?_⟩
      generalize hX : upd H27 l5 _ = H28
      obtain ⟨S28, f28⟩ := alloc hl5 hX
      clear hX
      have Z2 := Z1.same S28
      have n5 := Ne.symm (Z1.go.ne_new hl5)
      refine ⟨_, rfl, p, c, _, _, rfl, Z2.go.pen, Z2.go.cel, by omega, by decide, by decide, fun H29 r29 g29 a29 b29 => ?_⟩
      have Z3 := Z2.step NN g29
      obtain ⟨v29, hv29, ev29⟩ := atI_lt (xs := [V.int r27, V.int most]) a29 (by show r29 < ((2 : Nat) : Int); exact b29)
      obtain ⟨many, rfl, y0, y1⟩ : ∃ z : Int, v29 = .int z ∧ 0 ≤ z ∧ z ≤ 40 := by
        simp only [List.mem_cons, List.not_mem_nil, or_false] at hv29
        rcases hv29 with q | q <;> exact ⟨_, q, by omega, by omega⟩
      refine ⟨l5, _, _, _, rfl, rfl, g29.but.seqL n5 (SqL.of f28), ev29, many, rfl, by omega, by omega, ?_⟩
      have ll0 : 0 < ls.length := List.length_pos_iff.mpr ll1
      refine for_it walk_range (fun i σ H' => ∃ (t : Int) (x13 x14 x15 x16 x17 x18 : Option V) (bs : Bool → List Addr) (rs : Bool → List Row), σ = [some (.ref p), some (.int most), some (.int gap), some (.int late), some (.int low), some (.int high), some (.int t), some (.ref E), some (.ref N), some (.ref W), some (.ref O), some (.ref C), some (.ref G),  x13, x14, x15, x16, x17, x18, none, none, none] ∧
          LifeS K p c H N W O C G Z ls ws os bs rs (n + 30 + 9 * i) H' ∧ low ≤ t ∧ t ≤ high ∧ (∀ b, (rs b).length ≤ 2 * i) ∧ ∀ b, ∀ r ∈ rs b, low ≤ r.m ∧ r.m ≤ high ∧ r.l ∈ lines6 ∧ WOk r.l r.w)
        ⟨now, none, none, none, none, none, none, _, _, rfl, Z3.mono (by omega), tl0, th0, fun _ => Nat.le_refl _, fun _ _ z => nomatch z⟩ (fun _ _ _ _ _ => trivial) ?_ ?_
      · rintro i x σ _ Ha hi ⟨t, x13, x14, x15, x16, x17, x18, bs, rs, rfl, Za, tl, th, lr, kr⟩ ⟨rfl, rfl⟩
        have hi40 : i < 40 := by omega
        -- the minute
        refine ⟨_, rfl, _, rfl, _, rfl, p, c, _, _, rfl, Za.go.pen, Za.go.cel, by omega, by decide, by decide, fun Hb rb gb ab bb => ?_⟩
        have Zb := Za.step NN gb
        refine ⟨_, rfl, p, c, _, _, rfl, Zb.go.pen, Zb.go.cel, by omega, by decide, by decide, fun Hc rc gc ac bc => ?_⟩
        have Zc := Zb.step NN gc
        refine ⟨(by show 5 ≤ sizeLine; decide), fun l5 hl5 => ?_⟩
        generalize hX : upd Hc l5 _ = Hd
        obtain ⟨Sd, fd⟩ := alloc hl5 hX
        clear hX
        have n5 := Ne.symm (Zc.go.ne_new hl5)
        have Zd := Zc.same Sd
        refine ⟨_, rfl, p, c, _, _, rfl, Zd.go.pen, Zd.go.cel, by omega, by decide, by decide, fun He re ge ae be => ?_⟩
        have Ze := Zd.step NN ge
        obtain ⟨ve, hve, eve⟩ := atI_lt (xs := [V.int 0, V.int 0, V.int 1, V.int rb, V.int rc]) ae (by show re < ((5 : Nat) : Int); exact be)
        obtain ⟨z, rfl, z0⟩ : ∃ z : Int, ve = .int z ∧ 0 ≤ z := by
          simp only [List.mem_cons, List.not_mem_nil, or_false] at hve
          rcases hve with q | q | q | q | q <;> exact ⟨_, q, by omega⟩
        refine ⟨l5, _, _, _, rfl, rfl, ge.but.seqL n5 (SqL.of fd), eve, _, _, rfl, rfl, _, _, rfl, ?_⟩
        obtain ⟨t2, ht2, tl2, th2⟩ : ∃ z2 : Int, (if t + z < high then t + z else high) = z2 ∧ low ≤ z2 ∧ z2 ≤ high := ⟨_, rfl, by split <;> omega, by split <;> omega⟩
        rw [ht2]
        -- the line
        refine ⟨_, rfl, _, rfl, p, c, N, _, _, rfl, Ze.go.pen, Ze.go.cel, by omega, .inr Ze.eN, (fun q => by rw [List.map_eq_nil_iff] at q; exact ll1 q), (by rw [List.length_map]; omega), fun Hf vf gf mf => ?_⟩
        have Zf := Ze.step NN gf
        obtain ⟨ln, hln, rfl⟩ := List.mem_map.mp mf
        have lnk := kl.2 ln hln
        -- the what
        refine ⟨_, rfl, _, rfl, _, rfl, (by show 2 ≤ sizeLine; decide), fun l6 hl6 => ?_⟩
        generalize hX : upd Hf l6 _ = Hg
        obtain ⟨Sg, fg⟩ := alloc hl6 hX
        clear hX
        have Zg := Zf.same Sg
        refine ⟨_, rfl, (by show 2 ≤ sizeLine; decide), fun t6 ht6 => ?_⟩
        generalize hX : upd Hg t6 _ = Hh
        obtain ⟨Sh, fh⟩ := alloc ht6 hX
        clear hX
        have Zh := Zg.same Sh
        have inT : inV (V.str ln) [V.str (Str.ofString "down"), V.str (Str.ofString "up")] = decide (ln ∈ tubes) := in_strs (ls := tubes)
        refine ⟨t6, _, rfl, .inr (SqT.of fh), rfl, rfl, .inr ⟨_, rfl, ?_⟩⟩
        obtain ⟨q, xs, hq, eq, nq, xne, xl, xk⟩ : ∃ (q : Addr) (xs : List V), atI [V.ref O, V.ref W] (if inV (V.str ln) [V.str (Str.ofString "down"), V.str (Str.ofString "up")] = true then 1 else 0) = some (.ref q) ∧ Hh q = some (.lst xs) ∧ q ≠ p ∧ xs ≠ [] ∧ xs.length ≤ 10 ∧ ∀ v ∈ xs, ∃ what : What, v = what.v ∧ WOk ln what := by
          rw [inT]
          by_cases y : ln ∈ tubes
          · rw [decide_eq_true y]
            refine ⟨W, _, rfl, Zh.eW, pW, (fun q => by rw [List.map_eq_nil_iff] at q; exact kw.1 q), (by rw [List.length_map]; exact Nat.le_trans kw.2.1 (by decide)), fun v hv => ?_⟩
            obtain ⟨x, hx, rfl⟩ := List.mem_map.mp hv
            exact ⟨.name x, rfl, .inl ⟨y, x, rfl, kw.2.2 x hx⟩⟩
          · rw [decide_eq_false y]
            refine ⟨O, _, rfl, Zh.eO, pO, (fun q => by rw [List.map_eq_nil_iff] at q; exact no q), (by rw [List.length_map]; omega), fun v hv => ?_⟩
            obtain ⟨x, hx, rfl⟩ := List.mem_map.mp hv
            exact ⟨.order x, rfl, .inr ⟨y, x, rfl, ko x hx⟩⟩
        refine ⟨l6, _, _, _, rfl, rfl, SqL.of (Sh _ _ fg), hq, p, c, q, _, _, rfl, Zh.go.pen, Zh.go.cel, by omega, .inl ⟨SqL.of eq, nq⟩, xne, (by omega), fun Hi vi gi mi => ?_⟩
        obtain ⟨what, rfl, hw⟩ := xk vi mi
        have Zi := Zh.step NN gi
        -- the house
        refine ⟨_, rfl, (by show 3 ≤ sizeLine; decide), fun t7 ht7 => ?_⟩
        generalize hX : upd Hi t7 _ = Hj
        obtain ⟨Sj, fj⟩ := alloc ht7 hX
        clear hX
        have Zj := Zi.same Sj
        refine ⟨t7, _, rfl, .inr (SqT.of fj), rfl, rfl, .inr ⟨_, rfl, ?_⟩⟩
        generalize inV (V.str ln) [V.str (Str.ofString "aport"), V.str (Str.ofString "astar"), V.str (Str.ofString "up")] = hb
        -- the way
        refine ⟨_, rfl, p, c, _, _, rfl, Zj.go.pen, Zj.go.cel, by omega, by decide, by decide, fun Hk way gk ak bk => ?_⟩
        have Zk := Zj.step NN gk
        refine ⟨_, rfl, _, rfl, _, rfl, _, rfl, _, _, rfl, rfl, p, c, _, _, rfl, Zk.go.pen, Zk.go.cel, by omega, by omega, by omega, fun Hl rl gl al bl => ?_⟩
        have Zl := Zk.step NN gl
        refine ⟨_, _, rfl, rfl, _, _, rfl, ?_⟩
        obtain ⟨came, hcame, cl, ch⟩ : ∃ z2 : Int, (if t2 + rl < high then t2 + rl else high) = z2 ∧ low ≤ z2 ∧ z2 ≤ high := ⟨_, rfl, by split <;> omega, by split <;> omega⟩
        rw [hcame]
        have at1 : atI [V.ref (Z false), V.ref (Z true)] (if hb = true then 1 else 0) = some (.ref (Z hb)) := by cases hb <;> rfl
        have at2 : atI [V.ref (Z false), V.ref (Z true)] (1 - if hb = true then 1 else 0) = some (.ref (Z (!hb))) := by cases hb <;> rfl
        have lb1 := lr hb
        have lb2 := lr (!hb)
        refine ⟨fun σ' H' => ∃ (bs' : Bool → List Addr) (rs' : Bool → List Row), σ' = [some (.ref p), some (.int most), some (.int gap), some (.int late), some (.int low), some (.int high), some (.int t2), some (.ref E), some (.ref N), some (.ref W), some (.ref O), some (.ref C), some (.ref G), some (.int (0 + i)), some (.str ln), some what.v, some (.int (if hb = true then 1 else 0)), some (.int way), some (.int came), none, none, none] ∧ LifeS K p c H N W O C G Z ls ws os bs' rs' (n + 30 + 9 * i + 8) H' ∧ (rs' hb).length ≤ 2 * i + 1 ∧ (rs' (!hb)).length ≤ 2 * i ∧ ∀ b, ∀ r ∈ rs' b, low ≤ r.m ∧ r.m ≤ high ∧ r.l ∈ lines6 ∧ WOk r.l r.w, ?_, ?_⟩
        · refine ⟨_, rfl, rfl, _, rfl, ite2 (fun y => ?_) (fun y => ⟨bs, rs, rfl, Zl.mono (by omega), by omega, lb2, kr⟩)⟩
          refine ⟨_, rfl, _, rfl, G, _, _, _, rfl, rfl, SqL.of Zl.eG, at1, .inl ⟨rfl, _, SqL.of (Zl.eZ hb)⟩, ?_⟩
          refine ⟨_, rfl, _, rfl, _, rfl, (by show 3 ≤ sizeLine; decide), fun v hv => ?_⟩
          generalize hX : upd Hl v _ = Hm
          obtain ⟨Sm, fm⟩ := alloc hv hX
          clear hX
          have Zm := Zl.same Sm
          refine ⟨Z hb, _, _, rfl, rfl, Zm.eZ hb, (by rw [List.length_map, (Zm.rZ hb).length]; exact small1000 (by omega)), ?_⟩
          exact ⟨_, _, rfl, (Zm.put NN hb (frZ hb) hc (r := ⟨t2, ln, what⟩) (SqT.of fm)).mono (by omega), by rw [putB_self, List.length_append]; show _ + 1 ≤ _; omega, by rw [putB_oth]; exact lb2, putB_all kr ⟨tl2, th2, lnk, hw⟩⟩
        · rintro σ1 Hm ⟨bs1, rs1, rfl, Zm, la1, lb1', kr1⟩
          refine ⟨fun σ' H' => ∃ ln2 : Str, σ' = [some (.ref p), some (.int most), some (.int gap), some (.int late), some (.int low), some (.int high), some (.int t2), some (.ref E), some (.ref N), some (.ref W), some (.ref O), some (.ref C), some (.ref G), some (.int (0 + i)), some (.str ln2), some what.v, some (.int (if hb = true then 1 else 0)), some (.int way), some (.int came), none, none, none] ∧ H' = Hm ∧ ln2 ∈ lines6 ∧ WOk ln2 what, ?_, ?_⟩
          · refine ⟨_, rfl, rfl, _, rfl, ite2 (fun y => ?_) (fun y => ⟨ln, rfl, rfl, lnk, hw⟩)⟩
            have dg := DGet.k (k := .inr ln) Zm.eC
            obtain ⟨ag, al6, atu⟩ := across_get lnk
            rw [ag] at dg
            refine ⟨_, rfl, _, rfl, C, _, rfl, dg, swapL2 ln, rfl, rfl, al6, ?_⟩
            rcases hw with ⟨q1, q2⟩ | ⟨q1, q2⟩
            · exact .inl ⟨atu.mp q1, q2⟩
            · exact .inr ⟨fun q => q1 (atu.mpr q), q2⟩
          · rintro σ2 Hm ⟨ln2, rfl, rfl, lnk2, hw2⟩
            refine ⟨fun σ' H' => ∃ (bs' : Bool → List Addr) (rs' : Bool → List Row), σ' = [some (.ref p), some (.int most), some (.int gap), some (.int late), some (.int low), some (.int high), some (.int t2), some (.ref E), some (.ref N), some (.ref W), some (.ref O), some (.ref C), some (.ref G), some (.int (0 + i)), some (.str ln2), some what.v, some (.int (if hb = true then 1 else 0)), some (.int way), some (.int came), none, none, none] ∧ LifeS K p c H N W O C G Z ls ws os bs' rs' (n + 30 + 9 * i + 8) H' ∧ (∀ b, (rs' b).length ≤ 2 * i + 1) ∧ ∀ b, ∀ r ∈ rs' b, low ≤ r.m ∧ r.m ≤ high ∧ r.l ∈ lines6 ∧ WOk r.l r.w, ?_, ?_⟩
            · refine ⟨_, rfl, rfl, _, rfl, ite2 (fun y => ?_) (fun y => ⟨bs1, rs1, rfl, Zm, (fun b => by cases b <;> cases hb <;> first | exact la1 | exact Nat.le_succ_of_le lb1'), kr1⟩)⟩
              refine ⟨_, rfl, _, rfl, _, _, rfl, rfl, G, _, _, _, rfl, rfl, SqL.of Zm.eG, at2, .inl ⟨rfl, _, SqL.of (Zm.eZ (!hb))⟩, ?_⟩
              refine ⟨_, rfl, _, rfl, _, rfl, (by show 3 ≤ sizeLine; decide), fun v hv => ?_⟩
              generalize hX : upd Hm v _ = Hn
              obtain ⟨Sn, fn⟩ := alloc hv hX
              clear hX
              have Zn := Zm.same Sn
              refine ⟨Z (!hb), _, _, rfl, rfl, Zn.eZ (!hb), (by rw [List.length_map, (Zn.rZ (!hb)).length]; exact small1000 (by omega)), ?_⟩
              refine ⟨_, _, rfl, Zn.put NN (!hb) (frZ (!hb)) hc (r := ⟨came, ln2, what⟩) (SqT.of fn), ?_, putB_all kr1 ⟨cl, ch, lnk2, hw2⟩⟩
              intro b
              unfold putB
              cases b <;> cases hb <;> first | exact la1 | (exact Nat.le_trans (Nat.le_of_eq List.length_append) (Nat.succ_le_succ lb1'))
            · rintro σ3 Hn ⟨bs2, rs2, rfl, Zn, l2, kr2⟩
              refine ⟨_, rfl, rfl, _, rfl, ite2 (fun y => ?_) (fun y => ⟨t2, _, _, _, _, _, _, bs2, rs2, rfl, Zn.mono (by omega), tl2, th2, (fun b => Nat.le_trans (l2 b) (by omega)), kr2⟩)⟩
              refine ⟨_, rfl, _, rfl, _, _, rfl, rfl, G, _, _, _, rfl, rfl, SqL.of Zn.eG, at2, .inl ⟨rfl, _, SqL.of (Zn.eZ (!hb))⟩, ?_⟩
              refine ⟨_, rfl, _, rfl, _, rfl, _, rfl, _, _, rfl, rfl, p, c, _, _, rfl, Zn.go.pen, Zn.go.cel, by omega, by omega, by omega, fun Ho ro go ao bo => ?_⟩
              have Zo := Zn.step NN go
              refine ⟨_, _, rfl, rfl, _, _, rfl, ?_⟩
              obtain ⟨came2, hcame2, cl2, ch2⟩ : ∃ z2 : Int, (if came + ro < high then came + ro else high) = z2 ∧ low ≤ z2 ∧ z2 ≤ high := ⟨_, rfl, by split <;> omega, by split <;> omega⟩
              rw [hcame2]
              refine ⟨_, rfl, _, rfl, (by show 3 ≤ sizeLine; decide), fun v hv => ?_⟩
              generalize hX : upd Ho v _ = Hq
              obtain ⟨Sq, fq⟩ := alloc hv hX
              clear hX
              have Zq := Zo.same Sq
              refine ⟨Z (!hb), _, _, rfl, rfl, Zq.eZ (!hb), (by have := l2 (!hb); rw [List.length_map, (Zq.rZ (!hb)).length]; exact small1000 (by omega)), ?_⟩
              exact ⟨t2, _, _, _, _, _, _, _, _, rfl, (Zq.put NN (!hb) (frZ (!hb)) hc (r := ⟨came2, ln2, what⟩) (SqT.of fq)).mono (by omega), tl2, th2, putB_len (l2 _) (l2 _), putB_all kr2 ⟨cl2, ch2, lnk2, hw2⟩⟩
      · rintro σ Hm ⟨t, x13, x14, x15, x16, x17, x18, bs, rs, rfl, Zm, tl, th, lr, kr⟩
        obtain ⟨_, _, pH, _⟩ := id hp
        have Tm := GoN.of_go (T := tabsT T) Zm.go pH tabs
        obtain ⟨_, _, pm, _⟩ := id Zm.go.pen
        -- the bridge's
        refine ⟨_, rfl, G, _, _, _, rfl, rfl, SqL.of Zm.eG, rfl, 40, rfl, Z false, _, rfl, SqL.of (Zm.eZ false), fun l1 hl1 => ?_⟩
        generalize hX : upd Hm l1 _ = H1
        obtain ⟨S1, f1⟩ := alloc hl1 hX
        clear hX
        obtain ⟨ks, ek, hk⟩ := keysP ((Zm.rZ false).take (min 40 (bs false).length)) (fun r hr => kr false r (List.mem_of_mem_take hr))
        have lk : ks.length ≤ 40 := by
          have z := congrArg List.length ek
          rw [List.length_map, List.length_take] at z
          omega
        rw [cut40, ← ek, List.map_map] at f1
        have T1 := Tm.same S1
        refine ⟨l1, ks, rfl, SqL.of f1, fun b hb => ?_, T1.tab, fun H2 ext tab2 m1 hm1 => ?_⟩
        · obtain ⟨r, h1, h2, _⟩ := hk b hb
          rw [← h2]
          exact ⟨_, same_seqT S1 h1⟩
        have T2 := T1.ext ext tab2
        generalize hX : upd H2 m1 _ = H3
        obtain ⟨S3, f3⟩ := alloc hm1 hX
        clear hX
        have T3 := T2.same S3
        have mv3 : ∀ u o, Hm u = some o → (∀ ps, o ≠ .tbl ps) → H3 u = some o := fun u o e z => S3 _ _ (ext _ _ (S1 _ _ e) z)
        have b3 : ButN p Hm H3 := fun u o _ e z => mv3 u o e z
        have rw3 : ∀ {u : Addr} {r : Row}, RowAt K Hm u r → RowAt K H3 u r := fun h => b3.seqT' pm h
        -- the room's
        refine ⟨_, rfl, G, _, _, _, rfl, rfl, SqL.of (mv3 _ _ Zm.eG fun _ => nofun), rfl, 40, rfl, Z true, _, rfl, SqL.of (mv3 _ _ (Zm.eZ true) fun _ => nofun), fun l2 hl2 => ?_⟩
        generalize hX : upd H3 l2 _ = H4
        obtain ⟨S4, f4⟩ := alloc hl2 hX
        clear hX
        obtain ⟨ks2, ek2, hk2⟩ := keysP ((Zm.rZ true).take (min 40 (bs true).length)) (fun r hr => kr true r (List.mem_of_mem_take hr))
        have lk2 : ks2.length ≤ 40 := by
          have z := congrArg List.length ek2
          rw [List.length_map, List.length_take] at z
          omega
        rw [cut40, ← ek2, List.map_map] at f4
        have T4 := T3.same S4
        refine ⟨l2, ks2, rfl, SqL.of f4, fun b hb => ?_, T4.tab, fun H5 ext2 tab5 m2 hm2 => ?_⟩
        · obtain ⟨r, h1, h2, _⟩ := hk2 b hb
          rw [← h2]
          exact ⟨_, same_seqT S4 (rw3 h1)⟩
        have T5 := T4.ext ext2 tab5
        generalize hX : upd H5 m2 _ = H6
        obtain ⟨S6, f6⟩ := alloc hm2 hX
        clear hX
        have T6 := T5.same S6
        have mv6 : ∀ u o, H3 u = some o → (∀ ps, o ≠ .tbl ps) → H6 u = some o := fun u o e z => S6 _ _ (ext2 _ _ (S4 _ _ e) z)
        have b6 : ButN p Hm H6 := fun u o _ e z => mv6 u o (mv3 u o e z) z
        obtain ⟨A, rA, okA, riA, lA⟩ := byK (K := K) (H := H6) (ks := ks) fun b hb => by
          obtain ⟨r, h1, h2, h3⟩ := hk b hb
          exact ⟨r, b6.seqT' pm h1, h2, h3⟩
        obtain ⟨B, rB, okB, riB, lB⟩ := byK (K := K) (H := H6) (ks := ks2) fun b hb => by
          obtain ⟨r, h1, h2, h3⟩ := hk2 b hb
          exact ⟨r, b6.seqT' pm h1, h2, h3⟩
        -- told
        refine ⟨_, rfl, m1, _, rfl, .inl ⟨SqL.of (mv6 _ _ f3 fun _ => nofun), fun ta hta => ?_⟩⟩
        generalize hX : upd H6 ta _ = H7
        obtain ⟨S7, f7⟩ := alloc hta hX
        clear hX
        have T7 := T6.same S7
        have f6' : H6 m2 = some (.lst (((byFst ks2).map (·.1)).map V.ref)) := by rw [f6, List.map_map]; rfl
        refine ⟨_, rfl, m2, rfl, ⟨_, SqL.of (S7 _ _ f6')⟩, fun D hD => ?_⟩
        have lD := rB.length
        refine lc_it walk_list (fun i H' => Same H7 H' ∧ ∃ ds, H' D = some (.lst (ds.map V.ref)) ∧ RowsAt K H' ds ((B.take i).map (shR gap))) ⟨same_new (Same.refl _) hD, [], upd_same, .nil⟩ (fun i H' _ q => SqL.of (q.1 _ _ (S7 _ _ f6'))) ?_ ?_
        · rintro i x Ha Hb hi ⟨sa, ds, ea, ra⟩ ⟨rfl, hx⟩
          obtain ⟨a, ha, rfl⟩ := map_get hx
          obtain ⟨r, hr1, hr2⟩ := rB.get' ha
          have row := same_seqT (S7.trans sa) hr2
          refine ⟨a, _, rfl, row, rfl, _, _, rfl, _, _, rfl, _, _, rfl, rfl, rfl, _, rfl, _, rfl, _, _, rfl, rfl, _, rfl, _, rfl, (by show 3 ≤ sizeLine; decide), fun v hv => ?_⟩
          generalize hX : upd Hb v _ = Hc
          obtain ⟨Sc, fc⟩ := alloc hv hX
          clear hX
          have lb := ra.length
          rw [List.length_map, List.length_take] at lb
          have ec := Sc _ _ ea
          refine ⟨_, ec, small1000 (by rw [List.length_map]; omega), same_own (sa.trans Sc) hD, ds ++ [v], by rw [upd_same, List.map_append]; rfl, ?_⟩
          rw [List.take_succ, hr1, List.map_append]
          have bc : But D Hc (upd Hc D (.lst (ds.map V.ref ++ [V.ref v]))) := But.put
          exact ((ra.same Sc).snoc (r := shR gap r) (SqT.of fc)).lst ec bc
        · rintro H8 ⟨s8, ds, e8, r8⟩
          rw [List.length_map, lD, List.take_length] at r8
          refine ⟨D, _, rfl, .inl ⟨SqL.of e8, fun tb htb => ?_⟩⟩
          generalize hX : upd H8 tb _ = H9
          obtain ⟨S9, f9⟩ := alloc htb hX
          clear hX
          refine ⟨_, rfl, _, rfl, (by show 4 ≤ sizeLine; decide), fun u hu => ?_⟩
          generalize hX : upd H9 u _ = H10
          obtain ⟨S10, f10⟩ := alloc hu hX
          clear hX
          have S810 := S9.trans S10
          have S710 := s8.trans S810
          refine k H10 u ta tb gap late A (B.map (shR gap)) ((T7.same S710).mono (by omega)) (SqT.of f10) ⟨(byFst ks).map (·.1), ?_, rA.same (S7.trans S710)⟩ ⟨ds, SqT.of (S10 _ _ f9), r8.same S810⟩ (by omega) (by rw [List.length_map]; omega) (fun r hr => ?_) (fun r hr => ?_) riA ?_ e0 e1 s0 s1
          · have z := SqT.of (K := K) (S710 _ _ f7)
            rw [List.map_map]
            exact z
          · obtain ⟨q1, q2, q3, q4⟩ := okA r hr
            exact ⟨by omega, by omega, q3, q4⟩
          · obtain ⟨r0, hr0, rfl⟩ := List.mem_map.mp hr
            obtain ⟨q1, q2, q3, q4⟩ := okB r0 hr0
            exact ⟨by show 0 ≤ r0.m + gap; omega, by show r0.m + gap ≤ 99999; omega, q3, q4⟩
          · exact List.pairwise_map.mpr (riB.imp fun h => by show _ + gap ≤ _ + gap; omega)
/-! ### whether two rows fit (whichever) -/
def spLawFits (K : PySem.W.Frag) : Sp := fun vs H Q _ => ∃ (ta tb : Addr) (A B : List Row) (b r : Nat) (gap late : Int), vs = [.ref ta, .ref tb, .int b, .int r, .int gap, .int late] ∧ LogAt K H ta A ∧ LogAt K H tb B ∧ b < A.length ∧ r < B.length ∧ (∀ r ∈ A, r.Ok) ∧ (∀ r ∈ B, r.Ok) ∧
  ∀ H' f, Same H H' → Q (.bl f) H'
theorem ok_lfits (T : Txt w K mg) : FnOk P w K mg base CX0 1 T.a_law_fits T.d_law_fits ["_law_above", "_law_below", "_law_b", "_law_r", "_law_gap", "_law_late"] (spLawFits K) := by
  refine T.F_law_fits.ok sc_law_fits (fun vs H Q E h => ?_) (fun cdv A' outer s H vs Q E hr h => ?_)
  · obtain ⟨ta, tb, A, B, b, r, gap, late, rfl, _⟩ := h
    rfl
  · obtain ⟨ta, tb, A, B, b, r, gap, late, rfl, hA, hB, hb, hr2, oA, oB, k⟩ := h
    refine ⟨_, (pss_cons (ps_if (pt_cmpR (k_neD K hr.units) (pe_slice (k_slT K) (pe_ix (kx_tup K) (pv 0) (pv 2) (fun _ _ => rfl)) (po_some pe_int) po_none) (pe_slice (k_slT K) (pe_ix (kx_tup K) (pv 1) (pv 3) (fun _ _ => rfl)) (po_some pe_int) po_none) (nomark _)) (pss_one (ps_ret pe_bl)) pss_nil)
  (pss_cons (ps_set (i := 6) sc_law_fits.nd rfl (by first | exact Or.inl rfl | exact Or.inr rfl) (pe_op op_sub (pe_op op_sub (pe_ix (kx_tup K) (pe_ix (kx_tup K) (pv 1) (pv 3) (fun _ _ => rfl)) pe_int (fun _ _ => rfl)) (pv 4)) (pe_ix (kx_tup K) (pe_ix (kx_tup K) (pv 0) (pv 2) (fun _ _ => rfl)) pe_int (fun _ _ => rfl))))
  (C8.pss_cut (ps_if (pt_cmpR (k_in K) (pe_ix (kx_tup K) (pe_ix (kx_tup K) (pv 0) (pv 2) (fun _ _ => rfl)) pe_int (fun _ _ => rfl)) (pe_tup (pa_cons pe_str (pa_cons pe_str (pa_cons pe_str pa_nil)))) (by rfl)) (pss_one (ps_set (i := 6) sc_law_fits.nd rfl (by first | exact Or.inl rfl | exact Or.inr rfl) (pe_op op_sub pe_int (pv 6)))) pss_nil)
  (pss_one (ps_ret (pe_chain op_le op_le pe_int (pv 6) (pv 5))))))), ?_⟩
    have hx : A[b]? = some A[b] := List.getElem?_eq_getElem hb
    have hy : B[r]? = some B[r] := List.getElem?_eq_getElem hr2
    have xo := oA _ (List.mem_of_getElem? hx)
    have yo := oB _ (List.mem_of_getElem? hy)
    generalize A[b] = x at hx xo
    generalize B[r] = y at hy yo
    obtain ⟨as, hTa, hRa⟩ := id hA
    obtain ⟨bs, hTb, hRb⟩ := id hB
    obtain ⟨a1, ha1, rowA⟩ := hRa.get hx
    obtain ⟨b1, hb1, rowB⟩ := hRb.get hy
    have ga : atI (as.map V.ref) (b : Int) = some (.ref a1) := atI_nat (by rw [List.getElem?_map, ha1]; rfl)
    have gb : atI (bs.map V.ref) (r : Int) = some (.ref b1) := atI_nat (by rw [List.getElem?_map, hb1]; rfl)
    refine ⟨_, rfl, _, rfl, ta, _, _, _, rfl, rfl, hTa, ga, 1, rfl, a1, _, rfl, rowA, (by show ¬(1 = 0 ∧ _); exact fun z => nomatch z.1), fun p1 hp1 => ?_⟩
    generalize hX : upd H p1 _ = H1
    obtain ⟨S1, f1⟩ := alloc hp1 hX
    clear hX
    refine ⟨_, rfl, _, rfl, tb, _, _, _, rfl, rfl, same_seqT S1 hTb, gb, 1, rfl, b1, _, rfl, same_seqT S1 rowB, (by show ¬(1 = 0 ∧ _); exact fun z => nomatch z.1), fun p2 hp2 => ?_⟩
    generalize hX : upd H1 p2 _ = H2
    obtain ⟨S2, f2⟩ := alloc hp2 hX
    clear hX
    have tl : ∀ q : Row, q.Ok → RepOk (.tuple [.str q.l, q.w.d]) 1 18 := fun q qo => (RepOk.tuple (k := 0) (n := 8) fun d hd => by
      have z : d = .str q.l ∨ d = q.w.d := by simpa using hd
      rcases z with rfl | rfl
      · exact RepOk.tok (lines6_ok _ qo.ln)
      · refine What.rep ?_
        rcases qo.wh with ⟨_, t, e, q⟩ | ⟨_, i, e, q1, q2⟩
        · exact .inr ⟨t, e, q⟩
        · exact .inl ⟨i, e, q1, q2⟩).mono (Nat.le_refl _) (by show 2 * 9 ≤ 18; decide)
    refine ⟨.tuple [.str x.l, x.w.d], .tuple [.str y.l, y.w.d], .tup (SqT.of (S2 _ _ f1)) (.cons (.str _) (.cons x.w.dp .nil)), .tup (SqT.of f2) (.cons (.str _) (.cons y.w.dp .nil)), (tl x xo).shaped (by decide), (tl y yo).shaped (by decide), ?_⟩
    have S12 := S1.trans S2
    refine ⟨_, rfl, ite2 (fun y => k H2 _ S12) (fun y => ?_)⟩
    have hTa2 := same_seqT S12 hTa
    have hTb2 := same_seqT S12 hTb
    have rA2 := same_seqT S12 rowA
    have rB2 := same_seqT S12 rowB
    refine ⟨_, rfl, _, rfl, tb, _, _, _, rfl, rfl, hTb2, gb, b1, _, 0, _, rfl, rfl, rB2, rfl, _, rfl, _, _, rfl, rfl, _, rfl, _, rfl, ta, _, _, _, rfl, rfl, hTa2, ga, a1, _, 0, _, rfl, rfl, rA2, rfl, _, _, rfl, rfl, ?_⟩
    refine ⟨fun σ' H' => ∃ m : Int, σ' = [some (.ref ta), some (.ref tb), some (.int b), some (.int r), some (.int gap), some (.int late), some (.int m)] ∧ Same H H', ?_, ?_⟩
    · refine ⟨_, rfl, _, rfl, ta, _, _, _, rfl, rfl, hTa2, ga, a1, _, 1, _, rfl, rfl, rA2, rfl, (by show 3 ≤ sizeLine; decide), fun t7 ht7 => ?_⟩
      generalize hX : upd H2 t7 _ = H3
      obtain ⟨S3, f3⟩ := alloc ht7 hX
      clear hX
      refine ⟨t7, _, rfl, .inr (SqT.of f3), rfl, rfl, _, rfl, ite2 (fun y => ?_) (fun y => ⟨_, rfl, S12.trans S3⟩)⟩
      exact ⟨_, rfl, _, _, rfl, rfl, _, rfl, S12.trans S3⟩
    · rintro σ1 H3 ⟨m, rfl, S3⟩
      refine ⟨_, rfl, _, _, rfl, rfl, _, rfl, ?_⟩
      exact ite2 (fun y => ⟨_, rfl, _, _, rfl, rfl, k H3 _ S3⟩) (fun y => k H3 _ S3)
/-! ### some joining -/
/-- pairs of numbers within two logs -/
def InAB (A B : List Row) (z : Int × Int) : Prop := ∃ b r : Nat, z = ((b : Int), (r : Int)) ∧ b < A.length ∧ r < B.length
structure GreS (K : PySem.W.Frag) (p c D ta tb : Addr) (A B : List Row) (H0 : Hp) (as : List Addr) (zs : List (Int × Int)) (m : Nat) (H : Hp) : Prop where
  go : Go K p c H0 m H
  hA : LogAt K H ta A
  hB : LogAt K H tb B
  e : H D = some (.lst (as.map V.ref))
  at2 : At2 (PrAt K H) as zs
section
variable {K : PySem.W.Frag} {p c D ta tb a : Addr} {A B : List Row} {H0 H H1 : Hp} {as : List Addr} {zs : List (Int × Int)} {z : Int × Int} {m k : Nat}
theorem GreS.mono (h : GreS K p c D ta tb A B H0 as zs m H) (l : m ≤ k) : GreS K p c D ta tb A B H0 as zs k H := { h with go := h.go.mono l }
theorem GreS.same (h : GreS K p c D ta tb A B H0 as zs m H) (S : Same H H1) : GreS K p c D ta tb A B H0 as zs m H1 := ⟨h.go.same S, h.hA.same S, h.hB.same S, S _ _ h.e, h.at2.imp fun _ _ q => q.same S⟩
theorem GreS.step (h : GreS K p c D ta tb A B H0 as zs m H) (n : D ≠ p) (g : Go K p c H k H1) : GreS K p c D ta tb A B H0 as zs k H1 := ⟨h.go.trans g, h.hA.go h.go.pen g.but, h.hB.go h.go.pen g.but, g.but _ _ n h.e, h.at2.imp fun _ _ q => seqT_go q h.go.pen g.but⟩
theorem GreS.put (h : GreS K p c D ta tb A B H0 as zs m H) (n : D ≠ p) (f : H0 D = none) (hc : Cells K H0 p c) (hz : PrAt K H a z) : GreS K p c D ta tb A B H0 (as ++ [a]) (zs ++ [z]) m (upd H D (.lst (as.map V.ref ++ [V.ref a]))) := by
  have b : But D H (upd H D (.lst (as.map V.ref ++ [V.ref a]))) := But.put
  have lg : ∀ {t : Addr} {rs : List Row}, LogAt K H t rs → LogAt K (upd H D (.lst (as.map V.ref ++ [V.ref a]))) t rs := fun q => by
    obtain ⟨bs, h1, h2⟩ := q
    exact ⟨bs, seqT_lst h1 h.e b, h2.lst h.e b⟩
  exact ⟨h.go.own f n hc, lg h.hA, lg h.hB, by rw [upd_same, List.map_append]; rfl, (h.at2.snoc hz).imp fun _ _ q => seqT_lst q h.e b⟩
end
theorem bad_yes {Hq Ha : Hp} {D2 : Addr} {n j : Nat} (s : Same Hq Ha) (hD2 : Hq D2 = none) (e : Ha D2 = some (.lst (List.replicate n (V.int 1)))) (h : n ≤ j) (hj : j ≤ 2000) : ∃ acc, Ha D2 = some (.lst acc) ∧ acc.length < sizeLine ∧ (Same Hq (upd Ha D2 (.lst (acc ++ [V.int 1]))) ∧ ∃ n', upd Ha D2 (.lst (acc ++ [V.int 1])) D2 = some (.lst (List.replicate n' (V.int 1))) ∧ n' ≤ j + 1) := by
  refine ⟨_, e, lt_sizeLine (by rw [List.length_replicate]; omega), same_own s hD2, n + 1, ?_, by omega⟩
  rw [upd_same, List.replicate_succ']
theorem ones_rep {n : Nat} (h : n ≤ 2000) : RepOk (.list (List.replicate n (.int 1))) 1 10000 := by
  refine (RepOk.list (k := 0) (n := 4) fun d hd => ?_).mono (Nat.le_refl _) (by rw [List.length_replicate]; omega)
  rw [List.eq_of_mem_replicate hd]
  exact (RepOk.int (i := 1) (by decide +kernel)).mono (Nat.le_refl _) (by decide)
theorem ones_dp {K : PySem.W.Frag} {H : Hp} {a : Addr} {n : Nat} (h : SqL K H a (List.replicate n (V.int 1))) : Dp K H (.ref a) (.list (List.replicate n (.int 1))) := by
  refine .lst h ?_
  clear h
  induction n with
  | zero => exact .nil
  | succ n ih => exact .cons (.int 1) ih
def spGreedy (K : PySem.W.Frag) : Sp := fun vs H Q _ => ∃ (p c : Addr) (n : Nat) (ta tb : Addr) (A B : List Row) (gap late : Int), vs = [.ref p, .ref ta, .ref tb, .int gap, .int late] ∧ PenAt H p c n ∧ Cells K H p c ∧ n ≤ 800000 ∧ LogAt K H ta A ∧ LogAt K H tb B ∧ A.length ≤ 40 ∧ B.length ≤ 40 ∧ (∀ r ∈ A, r.Ok) ∧ (∀ r ∈ B, r.Ok) ∧
  ∀ H' q as zs, Go K p c H (n + 1610) H' → q ≠ p → H' q = some (.lst (as.map V.ref)) → At2 (PrAt K H') as zs → zs.length ≤ 1600 → (∀ z ∈ zs, InAB A B z) → Q (.ref q) H'
theorem ok_greedy (T : Txt w K mg) : FnOk P w K mg base CX0 3 T.a_greedy T.d_greedy ["_law_pen_here", "_law_above", "_law_below", "_law_gap", "_law_late"] (spGreedy K) := by
  have G_draw := ok_draw (P := P) (base := base) T
  have G_pick := ok_pick (P := P) (base := base) T
  have G_law_fits := ok_lfits (P := P) (base := base) T
  refine T.F_greedy.ok sc_greedy (fun vs H Q E h => ?_) (fun cdv A' outer s H vs Q E hr h => ?_)
  · obtain ⟨p, c, n, ta, tb, A, B, gap, late, rfl, _⟩ := h
    rfl
  · obtain ⟨p, c, n, ta, tb, A, B, gap, late, rfl, hp, hc, hn, hA, hB, lA, lB, oA, oB, k⟩ := h
    have hr_draw := hr.mono (show 1 ≤ 2 by decide)
    have hr_law_fits := hr.mono (show 1 ≤ 2 by decide)
    have hr_pick := hr
    refine ⟨_, (pss_cons (ps_set (i := 5) sc_greedy.nd rfl (by first | exact Or.inl rfl | exact Or.inr rfl) (pe_call G_pick hr_pick (by rfl) T.g_pick T.F_pick.kp T.b_pick .nil pass0 (pa_cons (pv 0) (pa_cons (pe_lst (pa_cons pe_int (pa_cons pe_int (pa_cons pe_int pa_nil)))) pa_nil))))
  (pss_cons (ps_set (i := 6) sc_greedy.nd rfl (by first | exact Or.inl rfl | exact Or.inr rfl) (pe_lst pa_nil))
  (pss_cons (ps_for PassesOwn.never rfl (pi_range1 (by rfl) T.z_range (pa_cons (pe_callB (k_len K) (by rfl) T.z_len (by decide +kernel) (pa_cons (pv 1) pa_nil)) pa_nil)) (pg_name (i := 7) sc_greedy.nd rfl (by first | exact Or.inl rfl | exact Or.inr rfl)) (pss_one (ps_for PassesOwn.never rfl (pi_range1 (by rfl) T.z_range (pa_cons (pe_callB (k_len K) (by rfl) T.z_len (by decide +kernel) (pa_cons (pv 2) pa_nil)) pa_nil)) (pg_name (i := 8) sc_greedy.nd rfl (by first | exact Or.inl rfl | exact Or.inr rfl)) (pss_one (ps_if (pt_val (pe_call G_law_fits hr_law_fits (by rfl) T.g_law_fits T.F_law_fits.kp T.b_law_fits .nil pass0 (pa_cons (pv 1) (pa_cons (pv 2) (pa_cons (pv 7) (pa_cons (pv 8) (pa_cons (pv 3) (pa_cons (pv 4) pa_nil)))))))) (pss_cons (ps_setLc (i := 9) (own := [("_law_c", 10), ("_law_s", 11)]) rfl sc_greedy.nd rfl rfl (sw_true rfl rfl rfl (by decide +kernel)) (k_piL K (pv 6)) (blkOk_by (own := [("_law_c", 10), ("_law_s", 11)]) (N := ["_law_pen_here", "_law_above", "_law_below", "_law_gap", "_law_late", "_law_share", "_law_found", "_law_b", "_law_r", "_law_bad", "_law_c", "_law_s"]) (sc := defScope s_greedy) (by decide +kernel)) (fun _ _ _ _ _ => (k_pgT (n := 2) K rfl (pgs_cons (pg_name (i := 10) sc_greedy.nd rfl (by first | exact Or.inl rfl | exact Or.inr rfl)) (pgs_cons (pg_name (i := 11) sc_greedy.nd rfl (by first | exact Or.inl rfl | exact Or.inr rfl)) pgs_nil)))) (fun _ _ _ _ _ => (pts_one (PW.pt (pw_or (pt_cmpR op_eq (pv 10) (pv 7) (nomark _)) (pw_or (pt_cmpR op_eq (pv 11) (pv 8) (nomark _)) (pw_or1 (PW.pt (pw_and (pt_cmpR op_eq (pe_ix (kx_tup K) (pe_ix (kx_tup K) (pv 1) (pv 10) (fun _ _ => rfl)) pe_int (fun _ _ => rfl)) (pe_ix (kx_tup K) (pe_ix (kx_tup K) (pv 1) (pv 7) (fun _ _ => rfl)) pe_int (fun _ _ => rfl)) (nomark _)) (pw_and1 (pt_cmpR op_gt (pv 11) (pv 8) (nomark _))))))))))) (fun _ _ _ _ _ => pe_int))
  (pss_one (ps_if (PW.pt (pw_and (pt_cmpR (k_eqD K hr.units) (pv 9) (pe_lst pa_nil) (nomark _)) (pw_and1 (pt_cmpR op_gt (pe_call G_draw hr_draw (by rfl) T.g_draw T.F_draw.kp T.b_draw .nil pass0 (pa_cons (pv 0) (pa_cons (pv 5) pa_nil))) pe_int (nomark _))))) (pss_one (ps_expr (pe_bm PySem.F.plainAttrs_list PySem.F.slot_list_append PySem.F.type_list_append mt_append (pv 6) (pa_cons (pe_tup (pa_cons (pv 7) (pa_cons (pv 8) pa_nil))) pa_nil)))) pss_nil))) pss_nil)))))
  (pss_one (ps_ret (pv 6)))))), ?_⟩
    have g0 := Go.refl hp hc
    refine ⟨_, rfl, (by show 3 ≤ sizeLine; decide), fun l1 hl1 => ?_⟩
    generalize hX : upd H l1 _ = H1
    obtain ⟨S1, f1⟩ := alloc hl1 hX
    clear hX
    have G1 := g0.same S1
    have n1 := Ne.symm (g0.ne_new hl1)
    refine ⟨p, c, l1, _, _, rfl, G1.pen, G1.cel, by omega, .inl ⟨SqL.of f1, n1⟩, (by simp), (by show 3 ≤ 1000000; decide), fun H2 v2 g2 m2 => ?_⟩
    have G2 := G1.trans g2
    obtain ⟨share, rfl, s0, s1⟩ : ∃ z : Int, v2 = .int z ∧ 1 ≤ z ∧ z ≤ 99 := by
      simp only [List.mem_cons, List.not_mem_nil, or_false] at m2
      rcases m2 with q | q | q <;> exact ⟨_, q, by omega, by omega⟩
    refine ⟨(by show 0 ≤ sizeLine; decide), fun D hD => ?_⟩
    generalize hX : upd H2 D _ = H3
    obtain ⟨S3, f3⟩ := alloc hD hX
    clear hX
    have G3 := G2.same S3
    have nD := Ne.symm (G2.ne_new hD)
    have frD := G2.free hD
    have A3 := ((hA.same S1).go G1.pen g2.but).same S3
    have B3 := ((hB.same S1).go G1.pen g2.but).same S3
    have Z0 : GreS K p c D ta tb A B H [] [] (n + 1) H3 := ⟨G3.mono (by omega), A3, B3, f3, .nil⟩
    obtain ⟨as3, hT3, hR3⟩ := id A3
    have la3 := hR3.length
    refine ⟨_, rfl, ta, _, rfl, .inr hT3, _, rfl, (by rw [List.length_map]; omega), (by rw [List.length_map]; omega), ?_⟩
    refine for_it walk_range (fun i σ H' => ∃ (x7 x8 x9 : Option V) (as : List Addr) (zs : List (Int × Int)), σ = [some (.ref p), some (.ref ta), some (.ref tb), some (.int gap), some (.int late), some (.int share), some (.ref D), x7, x8, x9, none, none] ∧ GreS K p c D ta tb A B H as zs (n + 1 + 40 * i) H' ∧ zs.length ≤ 40 * i ∧ ∀ z ∈ zs, InAB A B z)
      ⟨none, none, none, [], [], rfl, Z0, Nat.zero_le _, fun _ z => nomatch z⟩ (fun _ _ _ _ _ => trivial) ?_ ?_
    · rintro i x σ _ Ha hi ⟨x7, x8, x9, as, zs, rfl, Za, lz, kz⟩ ⟨rfl, hxm⟩
      obtain rfl : x = V.int (i : Int) := by
        rw [hxm]
        show V.int (0 + (i : Int)) = _
        rw [Int.zero_add]
      have hiA : i < A.length := by rw [List.length_map] at hi; omega
      obtain ⟨bsa, hTa, hRa⟩ := id Za.hB
      have lba := hRa.length
      refine ⟨_, rfl, tb, _, rfl, .inr hTa, _, rfl, (by rw [List.length_map]; omega), (by rw [List.length_map]; omega), ?_⟩
      refine for_it walk_range (fun j σ H' => ∃ (x8 x9 : Option V) (as : List Addr) (zs : List (Int × Int)), σ = [some (.ref p), some (.ref ta), some (.ref tb), some (.int gap), some (.int late), some (.int share), some (.ref D), some (.int i), x8, x9, none, none] ∧ GreS K p c D ta tb A B H as zs (n + 1 + 40 * i + j) H' ∧ zs.length ≤ 40 * i + j ∧ ∀ z ∈ zs, InAB A B z)
        ⟨x8, x9, as, zs, rfl, Za, lz, kz⟩ (fun _ _ _ _ _ => trivial) ?_ ?_
      · rintro j x σ _ Hb hj ⟨x8, x9, as, zs, rfl, Zb, lz, kz⟩ ⟨rfl, hxm⟩
        obtain rfl : x = V.int (j : Int) := by
          rw [hxm]
          show V.int (0 + (j : Int)) = _
          rw [Int.zero_add]
        have hjB : j < B.length := by rw [List.length_map] at hj; omega
        refine ⟨_, rfl, _, rfl, _, rfl, _, rfl, _, rfl, _, rfl, ta, tb, A, B, i, j, gap, late, rfl, Zb.hA, Zb.hB, hiA, hjB, oA, oB, fun Hc f Sc => ?_⟩
        have Zc := Zb.same Sc
        refine ⟨_, rfl, ite2 (fun y => ?_) (fun y => ⟨_, _, as, zs, rfl, Zc.mono (by omega), by omega, kz⟩)⟩
        refine ⟨_, rfl, D, rfl, ⟨_, SqL.of Zc.e⟩, fun D2 hD2 => ?_⟩
        have lq := Zc.at2.len
        refine lc_it walk_list (fun m H' => Same Hc H' ∧ ∃ n' : Nat, H' D2 = some (.lst (List.replicate n' (V.int 1))) ∧ n' ≤ m) ⟨same_new (Same.refl _) hD2, 0, upd_same, Nat.le_refl _⟩ (fun m H' _ q => SqL.of (q.1 _ _ Zc.e)) ?_ ?_
        · rintro m x Hd He hm ⟨sd, n', ed, ld⟩ ⟨rfl, hx⟩
          obtain ⟨a, ha, rfl⟩ := map_get hx
          obtain ⟨z, hz, row⟩ := Zc.at2.get' ha
          obtain ⟨b2, r2, rfl, hb2, hr2⟩ := kz z (List.mem_of_getElem? hz)
          rw [List.length_map] at hm
          have row := row.same sd
          have yes := bad_yes sd hD2 ed ld (by omega : m ≤ 2000)
          refine ⟨a, _, rfl, row, rfl, _, _, rfl, _, _, rfl, rfl, rfl, ?_⟩
          refine ⟨_, rfl, _, rfl, rfl, _, rfl, ite2 (fun y1 => iteT yes) (fun y1 => ?_)⟩
          refine ⟨_, rfl, _, rfl, rfl, _, rfl, ite2 (fun y2 => iteT yes) (fun y2 => ?_)⟩
          obtain ⟨asx, hTx, hRx⟩ := Zc.hA.same sd
          obtain ⟨a1, ha1, row1⟩ := hRx.get (List.getElem?_eq_getElem hb2)
          obtain ⟨a2, ha2, row2⟩ := hRx.get (List.getElem?_eq_getElem hiA)
          have g1 : atI (asx.map V.ref) (b2 : Int) = some (.ref a1) := atI_nat (by rw [List.getElem?_map, ha1]; rfl)
          have g2 : atI (asx.map V.ref) (i : Int) = some (.ref a2) := atI_nat (by rw [List.getElem?_map, ha2]; rfl)
          refine ⟨_, rfl, _, rfl, ta, _, _, _, rfl, rfl, hTx, g1, a1, _, 1, _, rfl, rfl, row1, rfl, _, rfl, _, rfl, ta, _, _, _, rfl, rfl, hTx, g2, a2, _, 1, _, rfl, rfl, row2, rfl, rfl, _, rfl, ite2 (fun y3 => ?_) (fun y3 => iteF ⟨sd, n', ed, by omega⟩)⟩
          refine ⟨_, rfl, _, rfl, _, _, rfl, rfl, _, rfl, ?_⟩
          by_cases y4 : (j : Int) < (r2 : Int)
          · rw [decide_eq_true y4]
            exact yes
          · rw [decide_eq_false y4]
            exact ⟨sd, n', ed, by omega⟩
        · rintro Hd ⟨sd, n', ed, ld⟩
          have Zd := Zc.same sd
          rw [List.length_map] at ld
          refine ⟨_, rfl, (by show 0 ≤ sizeLine; decide), fun e2 he2 => ?_⟩
          generalize hX : upd Hd e2 _ = He
          obtain ⟨Se, fe⟩ := alloc he2 hX
          clear hX
          have Ze := Zd.same Se
          refine ⟨_, _, ones_dp (SqL.of (Se _ _ ed)), .lst (SqL.of fe) .nil, (ones_rep (by omega)).shaped (by decide), ?_, ?_⟩
          · rfl
          refine ⟨_, rfl, ite2 (fun y3 => ?_) (fun y3 => iteF ⟨_, _, as, zs, rfl, Ze.mono (by omega), by omega, kz⟩)⟩
          refine ⟨_, rfl, _, rfl, p, c, _, _, rfl, Ze.go.pen, Ze.go.cel, by omega, by omega, by omega, fun Hf rf gf af bf => ?_⟩
          have Zf := Ze.step nD gf
          refine ⟨_, _, rfl, rfl, _, rfl, ite2 (fun y4 => ?_) (fun y4 => ⟨_, _, as, zs, rfl, Zf.mono (by omega), by omega, kz⟩)⟩
          refine ⟨_, rfl, .inl ⟨rfl, _, SqL.of Zf.e⟩, _, rfl, _, rfl, (by show 2 ≤ sizeLine; decide), fun v hv => ?_⟩
          generalize hX : upd Hf v _ = Hg
          obtain ⟨Sg, fg⟩ := alloc hv hX
          clear hX
          have Zg := Zf.same Sg
          refine ⟨D, _, _, rfl, rfl, Zg.e, lt_sizeLine (by rw [List.length_map]; omega), ?_⟩
          refine ⟨_, _, as ++ [v], zs ++ [((i : Int), (j : Int))], rfl, (Zg.put nD frD hc (SqT.of fg)).mono (by omega), by rw [List.length_append]; show _ + 1 ≤ _; omega, fun z hz => ?_⟩
          rcases List.mem_append.mp hz with q | q
          · exact kz z q
          · rw [List.mem_singleton.mp q]
            exact ⟨i, j, rfl, hiA, hjB⟩
      · rintro σ Hb ⟨x8, x9, as, zs, rfl, Zb, lz, kz⟩
        rw [List.length_map] at Zb lz
        exact ⟨_, _, _, as, zs, rfl, Zb.mono (by omega), by omega, kz⟩
    · rintro σ Hb ⟨x7, x8, x9, as, zs, rfl, Zb, lz, kz⟩
      rw [List.length_map] at Zb lz
      exact ⟨_, rfl, k Hb D as zs (Zb.go.mono (by omega)) nD Zb.e Zb.at2 (by omega) kz⟩
/-! ### a joining: drawn here, told, or none -/
theorem chainsL : ∀ gs : List (Str × List Pe), ((gs.map fun g => chainZ (fun e : Pe => e.2) (levelsZ (fun e : Pe => e.2) g.2)).flatten).length ≤ ((gs.map (·.2)).flatten).length
  | [] => Nat.le_refl _
  | g :: gs => by
    have h1 := chainsL gs
    have h3 := (chain_ok (levels_ok (fun e : Pe => e.2) g.2)).1
    have h4 := (lev_len (es := g.2)).1
    rw [List.map_cons, List.flatten_cons, List.length_append, List.map_cons, List.flatten_cons, List.length_append, h3]
    omega
theorem great_len {A : List Row} {es : List Pe} : (greatE A es).length ≤ es.length := by
  have z : (greatE A es).length = (chainsE A es).length := (List.mergeSort_perm _ _).length_eq
  rw [z]
  have q := chainsL (groupsZ (lineOf A) es)
  rw [(groups_ok (lineOf A) es).perm.length_eq] at q
  exact q
theorem join_of (A B : List Row) (d lag : Int) : ∃ es : List Pe, es.map (·.2) = prsAt A B d lag ∧ (greatE A es).map (·.2) = joinZ A B d lag := by
  refine ⟨(prsAt A B d lag).map fun z => (0, z), ?_, ?_⟩
  · rw [List.map_map]
    exact List.map_id _
  · rw [great_z, List.map_map]
    show greatZ A ((prsAt A B d lag).map id) = _
    rw [List.map_id]
    rfl
theorem join_in {A B : List Row} {d lag : Int} : (∀ z ∈ joinZ A B d lag, InAB A B z) ∧ ((A.length ≤ 40 ∧ B.length ≤ 40) → (joinZ A B d lag).length ≤ 1600) := by
  obtain ⟨es, e1, e2⟩ := join_of A B d lag
  rw [← e2]
  constructor
  · intro z hz
    obtain ⟨e, he, rfl⟩ := List.mem_map.mp hz
    have m : e.2 ∈ prsAt A B d lag := by
      rw [← e1]
      exact List.mem_map.mpr ⟨e, great_mem he, rfl⟩
    obtain ⟨b, r, x, y, ez, hx, hy, _⟩ := prsAt_mem m
    exact ⟨b, r, ez, (List.getElem?_eq_some_iff.mp hx).1, (List.getElem?_eq_some_iff.mp hy).1⟩
  · rintro ⟨lA, lB⟩
    have l := congrArg List.length e1
    rw [List.length_map] at l
    rw [List.length_map]
    have := great_len (A := A) (es := es)
    have : (prsAt A B d lag).length ≤ 1600 := Nat.le_trans (List.length_filter_le _ _) (prsAll_len lA lB)
    omega
theorem at2_of_pe {K : PySem.W.Frag} {H : Hp} : ∀ {os : List Pe}, PeAt K H os → At2 (PrAt K H) (os.map (·.1)) (os.map (·.2))
  | [], _ => .nil
  | o :: os, h => .cons (h o (List.mem_cons_self ..)) (at2_of_pe fun e he => h e (List.mem_cons_of_mem _ he))
/-- a list of pairs stands -/
structure PrsS (K : PySem.W.Frag) (p q : Addr) (A B : List Row) (as : List Addr) (zs : List (Int × Int)) (H : Hp) : Prop where
  n : q ≠ p
  e : H q = some (.lst (as.map V.ref))
  at2 : At2 (PrAt K H) as zs
  len : zs.length ≤ 1600
  ins : ∀ z ∈ zs, InAB A B z
theorem PrsS.butN {K : PySem.W.Frag} {p q : Addr} {A B : List Row} {as : List Addr} {zs : List (Int × Int)} {H H1 : Hp} {ys : List V} (h : PrsS K p q A B as zs H) (e : H p = some (.lst ys)) (b : ButN p H H1) : PrsS K p q A B as zs H1 :=
  ⟨h.n, b _ _ h.n h.e (fun _ => nofun), h.at2.imp fun _ _ r => b.seqT' e r, h.len, h.ins⟩
theorem PrsS.same {K : PySem.W.Frag} {p q : Addr} {A B : List Row} {as : List Addr} {zs : List (Int × Int)} {H H1 : Hp} (h : PrsS K p q A B as zs H) (S : Same H H1) : PrsS K p q A B as zs H1 :=
  ⟨h.n, S _ _ h.e, h.at2.imp fun _ _ r => r.same S, h.len, h.ins⟩
def spLPairs (Tl : List (Addr × Str)) (K : PySem.W.Frag) : Sp := fun vs H Q _ => ∃ (p c : Addr) (n : Nat) (ta tb : Addr) (A B : List Row) (gap late : Int), vs = [.ref p, .ref ta, .ref tb, .int gap, .int late] ∧ PenAt H p c n ∧ Cells K H p c ∧ n ≤ 700000 ∧ LogAt K H ta A ∧ LogAt K H tb B ∧ A.length ≤ 40 ∧ B.length ≤ 40 ∧ (∀ r ∈ A, r.Ok) ∧ (∀ r ∈ B, r.Ok) ∧ Tabs Tl H ∧
  ∀ H' q as zs, GoN K Tl p c H (n + 1620) H' → PrsS K p q A B as zs H' → Q (.ref q) H'
theorem ok_lpairs (T : Txt w K mg) (TB_levels_of : TabB base mg T.cc_levels_of (tabOf K T.cc_levels_of)) : FnOk P w K mg base CX0 8 T.a_pairs T.d_pairs ["_law_pen_here", "_law_above", "_law_below", "_law_gap", "_law_late"] (spLPairs (tabsT T) K) := by
  have G_pick := ok_pick (P := P) (base := base) T
  have G_greedy := ok_greedy (P := P) (base := base) T
  have G_joining := ok_joining (P := P) T TB_levels_of
  refine T.F_pairs.ok sc_pairs (fun vs H Q E h => ?_) (fun cdv A' outer s H vs Q E hr h => ?_)
  · obtain ⟨p, c, n, ta, tb, A, B, gap, late, rfl, _⟩ := h
    rfl
  · obtain ⟨p, c, n, ta, tb, A, B, gap, late, rfl, hp, hc, hn, hA, hB, lA, lB, oA, oB, tabs, k⟩ := h
    have hr_pick := hr.mono (show 2 ≤ 7 by decide)
    have hr_greedy := hr.mono (show 3 ≤ 7 by decide)
    have hr_joining := hr
    refine ⟨_, (pss_cons (ps_set (i := 5) sc_pairs.nd rfl (by first | exact Or.inl rfl | exact Or.inr rfl) (pe_call G_greedy hr_greedy (by rfl) T.g_greedy T.F_greedy.kp T.b_greedy .nil pass0 (pa_cons (pv 0) (pa_cons (pv 1) (pa_cons (pv 2) (pa_cons (pv 3) (pa_cons (pv 4) pa_nil)))))))
  (pss_cons (ps_set (i := 6) sc_pairs.nd rfl (by first | exact Or.inl rfl | exact Or.inr rfl) (pv 5))
  (C8.pss_cut (ps_if (pt_cmpR op_le (pe_op op_mul (pe_callB (k_len K) (by rfl) T.z_len (by decide +kernel) (pa_cons (pv 1) pa_nil)) (pe_callB (k_len K) (by rfl) T.z_len (by decide +kernel) (pa_cons (pv 2) pa_nil))) pe_int (nomark _)) (pss_one (ps_set (i := 6) sc_pairs.nd rfl (by first | exact Or.inl rfl | exact Or.inr rfl) (pe_call G_joining hr_joining (by rfl) T.g_joining T.F_joining.kp T.b4_joining T.v4_joining pass0 (pa_cons (pv 1) (pa_cons (pv 2) (pa_cons (pv 3) (pa_cons (pv 4) pa_nil))))))) pss_nil)
  (pss_one (ps_ret (pe_call G_pick hr_pick (by rfl) T.g_pick T.F_pick.kp T.b_pick .nil pass0 (pa_cons (pv 0) (pa_cons (pe_lst (pa_cons (pv 5) (pa_cons (pv 5) (pa_cons (pv 6) (pa_cons (pe_lst pa_nil) pa_nil))))) pa_nil)))))))), ?_⟩
    obtain ⟨_, _, pe0, _⟩ := id hp
    have g0 := GoN.refl hp hc tabs
    refine ⟨_, rfl, _, rfl, _, rfl, _, rfl, _, rfl, p, c, n, ta, tb, A, B, gap, late, rfl, hp, hc, by omega, hA, hB, lA, lB, oA, oB, fun H1 q as zs g1 nq eq aq lq kq => ?_⟩
    have G1 := g0.go g1
    have A1 := hA.go hp g1.but
    have B1 := hB.go hp g1.but
    have P1 : PrsS K p q A B as zs H1 := ⟨nq, eq, aq, lq, kq⟩
    obtain ⟨asA, hTA, hRA⟩ := id A1
    obtain ⟨asB, hTB, hRB⟩ := id B1
    have la := hRA.length
    have lb := hRB.length
    refine ⟨_, rfl, ?_⟩
    refine ⟨fun σ' H' => ∃ (q2 : Addr) (as2 : List Addr) (zs2 : List (Int × Int)), σ' = [some (.ref p), some (.ref ta), some (.ref tb), some (.int gap), some (.int late), some (.ref q), some (.ref q2)] ∧ GoN K (tabsT T) p c H (n + 1610) H' ∧ PrsS K p q A B as zs H' ∧ PrsS K p q2 A B as2 zs2 H', ?_, ?_⟩
    · refine ⟨_, rfl, ta, _, rfl, .inr hTA, _, rfl, tb, _, rfl, .inr hTB, _, _, rfl, rfl, ?_⟩
      refine ⟨.inl ⟨by rw [List.length_map]; omega, by rw [List.length_map]; omega⟩, _, _, rfl, rfl, _, rfl, ite2 (fun y => ?_) (fun y => ⟨q, as, zs, rfl, G1.mono (by omega), P1, P1⟩)⟩
      refine ⟨_, rfl, _, rfl, _, rfl, _, rfl, ta, tb, A, B, gap, late, rfl, A1, B1, oA, oB, lA, lB, G1.tab, fun H2 q2 os x2 t2 nq2 eq2 pq2 mq2 => ?_⟩
      obtain ⟨_, _, pe1, _⟩ := id g1.pen
      have J := join_in (A := A) (B := B) (d := gap) (lag := late)
      refine ⟨q2, os.map (·.1), os.map (·.2), rfl, (G1.ext x2 t2).mono (by omega), P1.butN pe1 (.of_ext x2), Ne.symm (nq2.ne pe1 (fun _ => nofun)), ?_, at2_of_pe pq2, ?_, ?_⟩
      · rw [List.map_map]
        exact eq2
      · rw [mq2]
        exact J.2 ⟨lA, lB⟩
      · rw [mq2]
        exact J.1
    · rintro σ1 H2 ⟨q2, as2, zs2, rfl, G2, P2, R2⟩
      refine ⟨_, rfl, _, rfl, _, rfl, _, rfl, (by show 0 ≤ sizeLine; decide), fun E1 hE1 => ?_⟩
      generalize hX : upd H2 E1 _ = H3
      obtain ⟨S3, f3⟩ := alloc hE1 hX
      clear hX
      have G3 := G2.same S3
      have P3 := P2.same S3
      have R3 := R2.same S3
      have nE := Ne.symm (G2.ne_new hE1)
      have N3 : PrsS K p E1 A B [] [] H3 := ⟨nE, f3, .nil, Nat.zero_le _, fun _ z => nomatch z⟩
      refine ⟨(by show 4 ≤ sizeLine; decide), fun l1 hl1 => ?_⟩
      generalize hX : upd H3 l1 _ = H4
      obtain ⟨S4, f4⟩ := alloc hl1 hX
      clear hX
      have G4 := G3.same S4
      have n1 := Ne.symm (G3.ne_new hl1)
      refine ⟨p, c, l1, _, _, rfl, G4.pen, G4.cel, by omega, .inl ⟨SqL.of f4, n1⟩, (by simp), (by show 4 ≤ 1000000; decide), fun H5 v5 g5 m5 => ?_⟩
      obtain ⟨_, _, pe4, _⟩ := id G4.pen
      have G5 := G4.go g5
      have b5 := ButN.of_but g5.but
      simp only [List.mem_cons, List.not_mem_nil, or_false] at m5
      rcases m5 with rfl | rfl | rfl | rfl
      · exact k _ _ _ _ (G5.mono (by omega)) ((P3.same S4).butN pe4 b5)
      · exact k _ _ _ _ (G5.mono (by omega)) ((P3.same S4).butN pe4 b5)
      · exact k _ _ _ _ (G5.mono (by omega)) ((R3.same S4).butN pe4 b5)
      · exact k _ _ _ _ (G5.mono (by omega)) ((N3.same S4).butN pe4 b5)
/-! ### rows in no pair -/
def lineAt (rs : List Row) (j : Nat) : Str := match rs[j]? with
  | some r => r.l
  | none => ""
theorem line_at {rs : List Row} {j : Nat} {r : Row} (h : rs[j]? = some r) : lineAt rs j = r.l := by
  unfold lineAt
  rw [h]
def freeJ (seen : List Int) (j : Nat) : Bool := !decide ((j : Int) ∈ seen)
def unZ (h : Str) (rs : List Row) (seen : List Int) (i : Nat) : List (Str × Nat × Str) := ((List.range i).filter (freeJ seen)).map fun j => (h, j, lineAt rs j)
def misL (h : Str) (ls : List Str) (rs : List Row) (seen : List Int) (i : Nat) : List (Str × Nat) := ((List.range i).filter fun j => decide (lineAt rs j ∈ ls) && freeJ seen j).map fun j => (h, j)
def missZ (A B : List Row) (zs : List (Int × Int)) : List (Str × Nat) := misL "bridge" ["port", "star", "down"] A (zs.map (·.1)) A.length ++ misL "room" ["aport", "astar", "up"] B (zs.map (·.2)) B.length
theorem un_succ {h : Str} {rs : List Row} {seen : List Int} {i : Nat} : unZ h rs seen (i + 1) = unZ h rs seen i ++ if freeJ seen i = true then [(h, i, lineAt rs i)] else [] := by
  unfold unZ
  rw [List.range_succ, List.filter_append, List.map_append]
  congr 1
  cases e : freeJ seen i <;> simp [List.filter, e]
theorem mis_succ {h : Str} {ls : List Str} {rs : List Row} {seen : List Int} {i : Nat} : misL h ls rs seen (i + 1) = misL h ls rs seen i ++ if (decide (lineAt rs i ∈ ls) && freeJ seen i) = true then [(h, i)] else [] := by
  unfold misL
  rw [List.range_succ, List.filter_append, List.map_append]
  congr 1
  cases e : (decide (lineAt rs i ∈ ls) && freeJ seen i) <;> simp [List.filter, e]
def backW (x : Str × Nat × Str) : Bool := decide (sentOf x.2.2 = x.1)
theorem mis_un {h : Str} {ls : List Str} {rs : List Row} {seen : List Int} : ∀ (n : Nat), (∀ j < n, (sentOf (lineAt rs j) = h ↔ lineAt rs j ∈ ls)) → ((unZ h rs seen n).filter backW).map (fun x => (x.1, x.2.1)) = misL h ls rs seen n
  | 0, _ => rfl
  | n + 1, k => by
    have ih := mis_un (h := h) (ls := ls) (rs := rs) (seen := seen) n fun j hj => k j (Nat.lt_succ_of_lt hj)
    rw [un_succ, mis_succ, List.filter_append, List.map_append, ih]
    congr 1
    have q : decide (sentOf (lineAt rs n) = h) = decide (lineAt rs n ∈ ls) := by
      rw [Bool.eq_iff_iff, decide_eq_true_eq, decide_eq_true_eq]
      exact k n (Nat.lt_succ_self n)
    cases e : freeJ seen n with
    | false => simp
    | true =>
      rw [if_pos rfl]
      show (([(h, n, lineAt rs n)].filter backW).map _) = _
      have b : backW (h, n, lineAt rs n) = decide (lineAt rs n ∈ ls) := q
      cases e2 : decide (lineAt rs n ∈ ls) <;> simp [List.filter, b, e2]
theorem sent_ls {l : Str} (h : l ∈ lines6) : (sentOf l = "bridge" ↔ l ∈ (["port", "star", "down"] : List Str)) ∧ (sentOf l = "room" ↔ l ∈ (["aport", "astar", "up"] : List Str)) := by
  have h2 : l = "port" ∨ l = "star" ∨ l = "down" ∨ l = "aport" ∨ l = "astar" ∨ l = "up" := by simpa [lines6] using h
  rcases h2 with rfl | rfl | rfl | rfl | rfl | rfl <;> exact ⟨by decide +kernel, by decide +kernel⟩
theorem mis_all {A B : List Row} {zs : List (Int × Int)} (oA : ∀ r ∈ A, r.Ok) (oB : ∀ r ∈ B, r.Ok) : ((unZ "bridge" A (zs.map (·.1)) A.length ++ unZ "room" B (zs.map (·.2)) B.length).filter backW).map (fun x => (x.1, x.2.1)) = missZ A B zs := by
  rw [List.filter_append, List.map_append, mis_un (ls := ["port", "star", "down"]) _ (fun j hj => ?_), mis_un (ls := ["aport", "astar", "up"]) _ (fun j hj => ?_)]
  · rfl
  · rw [line_at (List.getElem?_eq_getElem hj)]
    exact (sent_ls (oB _ (List.getElem_mem hj)).ln).2
  · rw [line_at (List.getElem?_eq_getElem hj)]
    exact (sent_ls (oA _ (List.getElem_mem hj)).ln).1
/-- a row that is in no pair stands -/
def UnAt (K : PySem.W.Frag) (H : Hp) (a : Addr) (x : Str × Nat × Str) : Prop := SqT K H a [.str x.1, .int x.2.1, .str x.2.2]
/-- a house and a number stand -/
def HnAt (K : PySem.W.Frag) (H : Hp) (a : Addr) (x : Str × Nat) : Prop := SqT K H a [.str x.1, .int x.2]
def hnD (x : Str × Nat) : PyData := .tuple [.str x.1, .int x.2]
/-! ### the rows that are in no pair -/
theorem flat_ints (ns : List Int) : (ns.map V.int).all flatV = true := by
  induction ns with
  | nil => rfl
  | cons n ns ih => rw [List.map_cons, List.all_cons, ih]; rfl
theorem in_ints (i : Int) (ns : List Int) : inV (V.int i) (ns.map V.int) = decide (i ∈ ns) := by
  rw [Bool.eq_iff_iff, decide_eq_true_eq]
  induction ns with
  | nil => simp [inV]
  | cons y ys ih =>
    rw [List.map_cons, List.mem_cons, ← ih]
    simp only [inV, List.any_cons, eqV, Bool.or_eq_true, beq_iff_eq]
    constructor
    · rintro (z | z)
      · exact .inl z.symm
      · exact .inr z
    · rintro (z | z)
      · exact .inl z.symm
      · exact .inr z
theorem not_in (i : Nat) (ns : List Int) : (if true = true then !inV (V.int i) (ns.map V.int) else inV (V.int i) (ns.map V.int)) = freeJ ns i := by
  rw [if_pos rfl, in_ints]
  rfl
theorem un_upd {K : PySem.W.Frag} {H : Hp} {u : Addr} {ys : List V} {o : HO} {as : List Addr} {xs : List (Str × Nat × Str)} (h : At2 (UnAt K H) as xs) (e : H u = some (.lst ys)) : At2 (UnAt K (upd H u o)) as xs := h.imp fun _ _ q => (ButN.of_but But.put).seqT' e q
theorem at2_app {α : Type} {R : Addr → α → Prop} {as bs : List Addr} {xs ys : List α} (h : At2 R as xs) (h2 : At2 R bs ys) : At2 R (as ++ bs) (xs ++ ys) := by
  induction h with
  | nil => exact h2
  | cons h1 _ ih => exact .cons h1 ih
def spUnp (K : PySem.W.Frag) : Sp := fun vs H Q _ => ∃ (p ta tb q : Addr) (A B : List Row) (as : List Addr) (zs : List (Int × Int)), vs = [.ref ta, .ref tb, .ref q] ∧ LogAt K H ta A ∧ LogAt K H tb B ∧ A.length ≤ 40 ∧ B.length ≤ 40 ∧ PrsS K p q A B as zs H ∧
  ∀ H' u us, Same H H' → H u = none → H' u = some (.lst (us.map V.ref)) → At2 (UnAt K H') us (unZ "bridge" A (zs.map (·.1)) A.length ++ unZ "room" B (zs.map (·.2)) B.length) → Q (.ref u) H'
theorem ok_unpaired (T : Txt w K mg) : FnOk P w K mg base CX0 1 T.a_unpaired T.d_unpaired ["bridge", "room", "joining"] (spUnp K) := by
  refine T.F_unpaired.ok sc_unpaired (fun vs H Q E h => ?_) (fun cdv A' outer s H vs Q E hr h => ?_)
  · obtain ⟨p, ta, tb, q, A, B, as, zs, rfl, _⟩ := h
    rfl
  · obtain ⟨p, ta, tb, q, A, B, as, zs, rfl, hA, hB, lA, lB, hq, k⟩ := h
    refine ⟨_, (pss_cons (ps_set (i := 3) sc_unpaired.nd rfl (by first | exact Or.inl rfl | exact Or.inr rfl) (pe_lc (own := [("b", 6), ("_", 7)]) rfl sc_unpaired.nd (k_piL K (pv 2)) (blkOk_by (own := [("b", 6), ("_", 7)]) (N := ["bridge", "room", "joining", "seen", "heard", "rows", "b", "_", "r", "number", "row"]) (sc := defScope s_unpaired) (by decide +kernel)) (fun _ _ _ _ _ => (k_pgT (n := 2) K rfl (pgs_cons (pg_name (i := 6) sc_unpaired.nd rfl (by first | exact Or.inl rfl | exact Or.inr rfl)) (pgs_cons (pg_name (i := 7) sc_unpaired.nd rfl (by first | exact Or.inl rfl | exact Or.inr rfl)) pgs_nil)))) (fun _ _ _ _ _ => pts_nil) (fun _ _ _ _ _ => (pv 6))))
  (pss_cons (ps_set (i := 4) sc_unpaired.nd rfl (by first | exact Or.inl rfl | exact Or.inr rfl) (pe_lc (own := [("_", 7), ("r", 8)]) rfl sc_unpaired.nd (k_piL K (pv 2)) (blkOk_by (own := [("_", 7), ("r", 8)]) (N := ["bridge", "room", "joining", "seen", "heard", "rows", "b", "_", "r", "number", "row"]) (sc := defScope s_unpaired) (by decide +kernel)) (fun _ _ _ _ _ => (k_pgT (n := 2) K rfl (pgs_cons (pg_name (i := 7) sc_unpaired.nd rfl (by first | exact Or.inl rfl | exact Or.inr rfl)) (pgs_cons (pg_name (i := 8) sc_unpaired.nd rfl (by first | exact Or.inl rfl | exact Or.inr rfl)) pgs_nil)))) (fun _ _ _ _ _ => pts_nil) (fun _ _ _ _ _ => (pv 8))))
  (pss_cons (ps_setLc (i := 5) (own := [("number", 9), ("row", 10)]) rfl sc_unpaired.nd rfl rfl (sw_true rfl rfl rfl (by decide +kernel)) (pi_enumA (by rfl) T.z_enumerate (pa_cons (pv 0) pa_nil)) (blkOk_by (own := [("number", 9), ("row", 10)]) (N := ["bridge", "room", "joining", "seen", "heard", "rows", "b", "_", "r", "number", "row"]) (sc := defScope s_unpaired) (by decide +kernel)) (fun _ _ _ _ _ => (k_pgT (n := 2) K rfl (pgs_cons (pg_name (i := 9) sc_unpaired.nd rfl (by first | exact Or.inl rfl | exact Or.inr rfl)) (pgs_cons (pg_name (i := 10) sc_unpaired.nd rfl (by first | exact Or.inl rfl | exact Or.inr rfl)) pgs_nil)))) (fun _ _ _ _ _ => (pts_one (pt_cmpR (k_notin K) (pv 9) (pv 3) (by rfl)))) (fun _ _ _ _ _ => (pe_tup (pa_cons pe_str (pa_cons (pv 9) (pa_cons (pe_ix (kx_tup K) (pv 10) pe_int (fun _ _ => rfl)) pa_nil))))))
  (pss_one (ps_ret (pe_op op_cat (pv 5) (pe_lc (own := [("number", 9), ("row", 10)]) rfl sc_unpaired.nd (pi_enumA (by rfl) T.z_enumerate (pa_cons (pv 1) pa_nil)) (blkOk_by (own := [("number", 9), ("row", 10)]) (N := ["bridge", "room", "joining", "seen", "heard", "rows", "b", "_", "r", "number", "row"]) (sc := defScope s_unpaired) (by decide +kernel)) (fun _ _ _ _ _ => (k_pgT (n := 2) K rfl (pgs_cons (pg_name (i := 9) sc_unpaired.nd rfl (by first | exact Or.inl rfl | exact Or.inr rfl)) (pgs_cons (pg_name (i := 10) sc_unpaired.nd rfl (by first | exact Or.inl rfl | exact Or.inr rfl)) pgs_nil)))) (fun _ _ _ _ _ => (pts_one (pt_cmpR (k_notin K) (pv 9) (pv 4) (by rfl)))) (fun _ _ _ _ _ => (pe_tup (pa_cons pe_str (pa_cons (pv 9) (pa_cons (pe_ix (kx_tup K) (pv 10) pe_int (fun _ _ => rfl)) pa_nil)))))))))))), ?_⟩
    have lz := hq.at2.len
    have ln := hq.len
    refine ⟨_, rfl, q, rfl, ⟨_, SqL.of hq.e⟩, fun D hD => ?_⟩
    refine lc_it walk_list (fun i H' => Same H H' ∧ H' D = some (.lst (((zs.map (·.1)).take i).map V.int))) ⟨same_new (Same.refl _) hD, by rw [List.take_zero]; exact upd_same⟩ (fun i H' _ r => SqL.of (r.1 _ _ hq.e)) ?_ ?_
    · rintro i x Ha Hb hi ⟨sa, ea⟩ ⟨rfl, hx⟩
      obtain ⟨a, ha, rfl⟩ := map_get hx
      obtain ⟨z, hz, row⟩ := hq.at2.get' ha
      have row := row.same sa
      rw [List.length_map] at hi
      refine ⟨a, _, rfl, row, rfl, _, _, rfl, _, _, rfl, rfl, rfl, ?_⟩
      refine ⟨_, rfl, _, ea, lt_sizeLine (by rw [List.length_map, List.length_take, List.length_map]; omega), same_own sa hD, ?_⟩
      rw [upd_same, List.take_succ, List.getElem?_map, hz, List.map_append]
      rfl
    rintro H1 ⟨S1, e1⟩
    rw [List.length_map, lz, List.take_of_length_le (by rw [List.length_map]; omega)] at e1
    have hq1 := hq.same S1
    refine ⟨_, rfl, q, rfl, ⟨_, SqL.of hq1.e⟩, fun D2 hD2 => ?_⟩
    refine lc_it walk_list (fun i H' => Same H1 H' ∧ H' D2 = some (.lst (((zs.map (·.2)).take i).map V.int))) ⟨same_new (Same.refl _) hD2, by rw [List.take_zero]; exact upd_same⟩ (fun i H' _ r => SqL.of (r.1 _ _ hq1.e)) ?_ ?_
    · rintro i x Ha Hb hi ⟨sa, ea⟩ ⟨rfl, hx⟩
      obtain ⟨a, ha, rfl⟩ := map_get hx
      obtain ⟨z, hz, row⟩ := hq1.at2.get' ha
      have row := row.same sa
      rw [List.length_map] at hi
      refine ⟨a, _, rfl, row, rfl, _, _, rfl, _, _, rfl, rfl, rfl, ?_⟩
      refine ⟨_, rfl, _, ea, lt_sizeLine (by rw [List.length_map, List.length_take, List.length_map]; omega), same_own sa hD2, ?_⟩
      rw [upd_same, List.take_succ, List.getElem?_map, hz, List.map_append]
      rfl
    rintro H2 ⟨S2, e2⟩
    rw [List.length_map, lz, List.take_of_length_le (by rw [List.length_map]; omega)] at e2
    have e12 := S2 _ _ e1
    have S02 := S1.trans S2
    obtain ⟨asA, hTA, hRA⟩ := hA.same S02
    have la := hRA.length
    refine ⟨_, rfl, ta, _, rfl, .inr ⟨hTA, fun D3 hD3 => ?_⟩⟩
    refine lc_it walk_enumT (fun i H' => Same H2 H' ∧ ∃ us, H' D3 = some (.lst (us.map V.ref)) ∧ At2 (UnAt K H') us (unZ "bridge" A (zs.map (·.1)) i) ∧ us.length ≤ i) ⟨same_new (Same.refl _) hD3, [], upd_same, .nil, Nat.le_refl _⟩ (fun i H' _ q => same_seqT q.1 hTA) ?_ ?_
    · rintro i x Ha Hb hi ⟨sa, us, ea, at_, lu⟩ ⟨Tq, y1, y2, rfl, hTq, rfl, q1, q3⟩
      have : y1 = V.int (i : Nat) := (Option.some.inj q1).symm
      subst this
      obtain ⟨a, ha, rfl⟩ := map_get q3
      obtain ⟨r, hr1, hr2⟩ := hRA.get' ha
      generalize hX : upd Ha Tq _ = Hb
      obtain ⟨Sb, fb⟩ := alloc hTq hX
      clear hX
      have sb := sa.trans Sb
      have row := same_seqT sb hr2
      refine ⟨Tq, _, rfl, SqT.of fb, rfl, _, _, rfl, _, _, rfl, rfl, rfl, _, rfl, _, rfl, D, _, rfl, .inl (SqL.of (sb _ _ e12)), ?_⟩
      refine ⟨rfl, flat_ints _, freeJ (zs.map (·.1)) i, congrArg V.bl (not_in i _), ?_⟩
      rw [un_succ]
      refine ite2 (fun y => ?_) (fun y => ?_)
      · refine ⟨_, rfl, _, rfl, a, _, 1, _, rfl, rfl, row, rfl, (by show 3 ≤ sizeLine; decide), fun v hv => ?_⟩
        generalize hX : upd Hb v _ = Hc
        obtain ⟨Sc, fc⟩ := alloc hv hX
        clear hX
        have ec := Sc _ _ (Sb _ _ ea)
        rw [List.length_map] at hi
        refine ⟨_, ec, lt_sizeLine (by rw [List.length_map]; omega), same_own (sb.trans Sc) hD3, us ++ [v], by rw [upd_same, List.map_append]; rfl, ?_, by rw [List.length_append]; exact Nat.succ_le_succ lu⟩
        rw [if_pos y, line_at hr1]
        exact un_upd ((at_.imp fun _ _ q => same_seqT (Sb.trans Sc) q).snoc (SqT.of fc)) ec
      · rw [if_neg y, List.append_nil]
        exact ⟨sb, us, Sb _ _ ea, at_.imp fun _ _ q => same_seqT Sb q, Nat.le_succ_of_le lu⟩
    rintro H3 ⟨S3, us, e3, at3, l3⟩
    rw [List.length_map, la] at at3 l3
    obtain ⟨asB, hTB, hRB⟩ := hB.same (S02.trans S3)
    have lb := hRB.length
    have e23 := S3 _ _ e2
    refine ⟨_, rfl, _, rfl, tb, _, rfl, .inr ⟨hTB, fun D4 hD4 => ?_⟩⟩
    refine lc_it walk_enumT (fun i H' => Same H3 H' ∧ ∃ us, H' D4 = some (.lst (us.map V.ref)) ∧ At2 (UnAt K H') us (unZ "room" B (zs.map (·.2)) i) ∧ us.length ≤ i) ⟨same_new (Same.refl _) hD4, [], upd_same, .nil, Nat.le_refl _⟩ (fun i H' _ q => same_seqT q.1 hTB) ?_ ?_
    · rintro i x Ha Hb hi ⟨sa, us, ea, at_, lu⟩ ⟨Tq, y1, y2, rfl, hTq, rfl, q1, q3⟩
      have : y1 = V.int (i : Nat) := (Option.some.inj q1).symm
      subst this
      obtain ⟨a, ha, rfl⟩ := map_get q3
      obtain ⟨r, hr1, hr2⟩ := hRB.get' ha
      generalize hX : upd Ha Tq _ = Hb
      obtain ⟨Sb, fb⟩ := alloc hTq hX
      clear hX
      have sb := sa.trans Sb
      have row := same_seqT sb hr2
      refine ⟨Tq, _, rfl, SqT.of fb, rfl, _, _, rfl, _, _, rfl, rfl, rfl, _, rfl, _, rfl, D2, _, rfl, .inl (SqL.of (sb _ _ e23)), ?_⟩
      refine ⟨rfl, flat_ints _, freeJ (zs.map (·.2)) i, congrArg V.bl (not_in i _), ?_⟩
      rw [un_succ]
      refine ite2 (fun y => ?_) (fun y => ?_)
      · refine ⟨_, rfl, _, rfl, a, _, 1, _, rfl, rfl, row, rfl, (by show 3 ≤ sizeLine; decide), fun v hv => ?_⟩
        generalize hX : upd Hb v _ = Hc
        obtain ⟨Sc, fc⟩ := alloc hv hX
        clear hX
        have ec := Sc _ _ (Sb _ _ ea)
        rw [List.length_map] at hi
        refine ⟨_, ec, lt_sizeLine (by rw [List.length_map]; omega), same_own (sb.trans Sc) hD4, us ++ [v], by rw [upd_same, List.map_append]; rfl, ?_, by rw [List.length_append]; exact Nat.succ_le_succ lu⟩
        rw [if_pos y, line_at hr1]
        exact un_upd ((at_.imp fun _ _ q => same_seqT (Sb.trans Sc) q).snoc (SqT.of fc)) ec
      · rw [if_neg y, List.append_nil]
        exact ⟨sb, us, Sb _ _ ea, at_.imp fun _ _ q => same_seqT Sb q, Nat.le_succ_of_le lu⟩
    rintro H4 ⟨S4, vs, e4, at4, l4⟩
    rw [List.length_map, lb] at at4 l4
    refine ⟨D3, D4, _, _, rfl, rfl, S4 _ _ e3, e4, (by rw [List.length_map, List.length_map]; exact Nat.le_of_lt (lt_sizeLine (by omega))), fun u hu => ?_⟩
    generalize hX : upd H4 u _ = H5
    obtain ⟨S5, f5⟩ := alloc hu hX
    clear hX
    exact k H5 u (us ++ vs) (((S02.trans S3).trans S4).trans S5) (((S02.trans S3).trans S4).free hu) (by rw [f5, List.map_append]) (at2_app (at3.imp fun _ _ q => same_seqT (S4.trans S5) q) (at4.imp fun _ _ q => same_seqT S5 q))
/-! ### missed -/
def spMissed (K : PySem.W.Frag) : Sp := fun vs H Q _ => ∃ (p ta tb q : Addr) (A B : List Row) (as : List Addr) (zs : List (Int × Int)), vs = [.ref ta, .ref tb, .ref q] ∧ LogAt K H ta A ∧ LogAt K H tb B ∧ A.length ≤ 40 ∧ B.length ≤ 40 ∧ (∀ r ∈ A, r.Ok) ∧ (∀ r ∈ B, r.Ok) ∧ PrsS K p q A B as zs H ∧
  ∀ H' u us, Same H H' → H u = none → H' u = some (.lst (us.map V.ref)) → At2 (HnAt K H') us (missZ A B zs) → Q (.ref u) H'
theorem un_len {h : Str} {rs : List Row} {seen : List Int} {n : Nat} : (unZ h rs seen n).length ≤ n := by
  unfold unZ
  rw [List.length_map]
  exact Nat.le_trans (List.length_filter_le _ _) (Nat.le_of_eq List.length_range)
theorem un_mem {h : Str} {rs : List Row} {seen : List Int} {n : Nat} {x : Str × Nat × Str} (m : x ∈ unZ h rs seen n) : x.1 = h ∧ x.2.1 < n ∧ x.2.2 = lineAt rs x.2.1 := by
  unfold unZ at m
  obtain ⟨j, hj, rfl⟩ := List.mem_map.mp m
  exact ⟨rfl, List.mem_range.mp (List.mem_filter.mp hj).1, rfl⟩
theorem hn_upd {K : PySem.W.Frag} {H : Hp} {u : Addr} {ys : List V} {o : HO} {as : List Addr} {xs : List (Str × Nat)} (h : At2 (HnAt K H) as xs) (e : H u = some (.lst ys)) : At2 (HnAt K (upd H u o)) as xs := h.imp fun _ _ q => (ButN.of_but But.put).seqT' e q
theorem ok_missed (T : Txt w K mg) : FnOk P w K mg base CX0 2 T.a_missed T.d_missed ["bridge", "room", "joining"] (spMissed K) := by
  have G_unpaired := ok_unpaired (P := P) (base := base) T
  have G_sent_from := ok_sent (P := P) (base := base) T
  refine T.F_missed.ok sc_missed (fun vs H Q E h => ?_) (fun cdv A' outer s H vs Q E hr h => ?_)
  · obtain ⟨p, ta, tb, q, A, B, as, zs, rfl, _⟩ := h
    rfl
  · obtain ⟨p, ta, tb, q, A, B, as, zs, rfl, hA, hB, lA, lB, oA, oB, hq, k⟩ := h
    have hr_unpaired := hr
    have hr_sent_from := hr
    refine ⟨_, (pss_cons (ps_set (i := 3) sc_missed.nd rfl (by first | exact Or.inl rfl | exact Or.inr rfl) (pe_call G_unpaired hr_unpaired (by rfl) T.g_unpaired T.F_unpaired.kp T.b_unpaired .nil pass0 (pa_cons (pv 0) (pa_cons (pv 1) (pa_cons (pv 2) pa_nil)))))
  (pss_one (ps_ret (pe_lc (own := [("house", 4), ("number", 5), ("line", 6)]) rfl sc_missed.nd (k_piL K (pv 3)) (blkOk_by (own := [("house", 4), ("number", 5), ("line", 6)]) (N := ["bridge", "room", "joining", "rows", "house", "number", "line"]) (sc := defScope s_missed) (by decide +kernel)) (fun _ _ _ _ _ => (k_pgT (n := 3) K rfl (pgs_cons (pg_name (i := 4) sc_missed.nd rfl (by first | exact Or.inl rfl | exact Or.inr rfl)) (pgs_cons (pg_name (i := 5) sc_missed.nd rfl (by first | exact Or.inl rfl | exact Or.inr rfl)) (pgs_cons (pg_name (i := 6) sc_missed.nd rfl (by first | exact Or.inl rfl | exact Or.inr rfl)) pgs_nil))))) (fun _ _ _ _ _ => (pts_one (pt_cmpR op_eq (pe_call G_sent_from hr_sent_from (by rfl) T.g_sent_from T.F_sent_from.kp T.b_sent_from .nil pass0 (pa_cons (pv 6) pa_nil)) (pv 4) (nomark _)))) (fun _ _ _ _ _ => (pe_tup (pa_cons (pv 4) (pa_cons (pv 5) pa_nil)))))))), ?_⟩
    refine ⟨_, rfl, _, rfl, _, rfl, p, ta, tb, q, A, B, as, zs, rfl, hA, hB, lA, lB, hq, fun H1 u us S1 nu eu at1 => ?_⟩
    have ll := at1.len
    have l1 := un_len (h := "bridge") (rs := A) (seen := zs.map (·.1)) (n := A.length)
    have l2 := un_len (h := "room") (rs := B) (seen := zs.map (·.2)) (n := B.length)
    rw [List.length_append] at ll
    have sx : ∀ x ∈ unZ "bridge" A (zs.map (·.1)) A.length ++ unZ "room" B (zs.map (·.2)) B.length, x.2.2 ∈ lines6 := fun x hx => by
      rcases List.mem_append.mp hx with z | z
      · obtain ⟨_, h2, h3⟩ := un_mem z
        rw [h3, line_at (List.getElem?_eq_getElem h2)]
        exact (oA _ (List.getElem_mem h2)).ln
      · obtain ⟨_, h2, h3⟩ := un_mem z
        rw [h3, line_at (List.getElem?_eq_getElem h2)]
        exact (oB _ (List.getElem_mem h2)).ln
    have fin := mis_all (zs := zs) oA oB
    generalize unZ "bridge" A (zs.map (·.1)) A.length ++ unZ "room" B (zs.map (·.2)) B.length = xs at *
    refine ⟨_, rfl, u, rfl, ⟨_, SqL.of eu⟩, fun D hD => ?_⟩
    refine lc_it walk_list (fun i H' => Same H1 H' ∧ ∃ vs, H' D = some (.lst (vs.map V.ref)) ∧ At2 (HnAt K H') vs (((xs.take i).filter backW).map (fun x => (x.1, x.2.1))) ∧ vs.length ≤ i) ⟨same_new (Same.refl _) hD, [], upd_same, .nil, Nat.le_refl _⟩ (fun i H' _ q => SqL.of (q.1 _ _ eu)) ?_ ?_
    · rintro i x Ha Hb hi ⟨sa, vs, ea, at_, lv⟩ ⟨rfl, hx⟩
      obtain ⟨a, ha, rfl⟩ := map_get hx
      obtain ⟨x, hx1, row⟩ := at1.get' ha
      have row := same_seqT sa row
      rw [List.length_map] at hi
      refine ⟨a, _, rfl, row, rfl, _, _, rfl, _, _, rfl, _, _, rfl, rfl, rfl, _, rfl, x.2.2, rfl, sx x (List.mem_of_getElem? hx1), ?_⟩
      have eb : decide (V.str (sentOf x.2.2) = V.str x.1) = backW x := by
        unfold backW
        rw [Bool.eq_iff_iff, decide_eq_true_eq, decide_eq_true_eq]
        exact ⟨fun z => by injection z, fun z => by rw [z]⟩
      refine ⟨_, rfl, rfl, backW x, congrArg V.bl eb, ?_⟩
      rw [List.take_succ, hx1, List.filter_append, List.map_append]
      refine ite2 (fun y => ?_) (fun y => ?_)
      · refine ⟨_, rfl, _, rfl, (by show 2 ≤ sizeLine; decide), fun v hv => ?_⟩
        generalize hX : upd Hb v _ = Hc
        obtain ⟨Sc, fc⟩ := alloc hv hX
        clear hX
        have ec := Sc _ _ ea
        refine ⟨_, ec, lt_sizeLine (by rw [List.length_map]; omega), same_own (sa.trans Sc) hD, vs ++ [v], by rw [upd_same, List.map_append]; rfl, ?_, by rw [List.length_append]; exact Nat.succ_le_succ lv⟩
        have f1 : [x].filter backW = [x] := by simp [List.filter, y]
        show At2 _ _ (_ ++ ([x].filter backW).map _)
        rw [f1]
        exact hn_upd ((at_.imp fun _ _ q => same_seqT Sc q).snoc (SqT.of fc)) ec
      · have f1 : [x].filter backW = [] := by simp [List.filter, y]
        show Same H1 Hb ∧ ∃ vs, _ ∧ At2 _ _ (_ ++ ([x].filter backW).map _) ∧ _
        rw [f1, List.map_nil, List.append_nil]
        exact ⟨sa, vs, ea, at_, Nat.le_succ_of_le lv⟩
    · rintro H2 ⟨S2, vs, e2, at2, _⟩
      rw [List.length_map, at1.len, List.take_length, fin] at at2
      exact k H2 D vs (S1.trans S2) (S1.free hD) e2 at2
/-! ### missed, gone through here -/
def ones (seen : List Int) (i : Nat) : List V := (seen.filter fun z => decide (z = (i : Int))).map fun _ => V.int 1
theorem ones_snoc {seen : List Int} {m i : Nat} {z : Int} (h : seen[m]? = some z) : ones (seen.take (m + 1)) i = ones (seen.take m) i ++ if z = (i : Int) then [V.int 1] else [] := by
  unfold ones
  rw [List.take_succ, h, List.filter_append, List.map_append]
  congr 1
  by_cases e : z = (i : Int)
  · rw [if_pos e]
    show ([z].filter _).map _ = _
    simp [List.filter, e]
  · rw [if_neg e]
    show ([z].filter _).map _ = _
    simp [List.filter, e]
theorem ones_len (seen : List Int) (i : Nat) : (ones seen i).length ≤ seen.length := by
  unfold ones
  rw [List.length_map]
  exact List.length_filter_le _ _
theorem ones_empty (seen : List Int) (i : Nat) : (ones seen i).isEmpty = freeJ seen i := by
  unfold ones freeJ
  induction seen with
  | nil => simp
  | cons z zs ih =>
    by_cases e : z = (i : Int)
    · simp [List.filter, e]
    · have e2 : ¬((i : Int) = z) := fun q => e q.symm
      simp only [List.filter, e, decide_false, ih, List.mem_cons, e2, false_or]
theorem ok_law_missed (T : Txt w K mg) : FnOk P w K mg base CX0 1 T.a_law_missed T.d_law_missed ["_law_above", "_law_below", "_law_pairs_here"] (spMissed K) := by
  refine T.F_law_missed.ok sc_law_missed (fun vs H Q E h => ?_) (fun cdv A' outer s H vs Q E hr h => ?_)
  · obtain ⟨p, ta, tb, q, A, B, as, zs, rfl, _⟩ := h
    rfl
  · obtain ⟨p, ta, tb, q, A, B, as, zs, rfl, hA, hB, lA, lB, oA, oB, hq, k⟩ := h
    refine ⟨_, (pss_cons (ps_set (i := 3) sc_law_missed.nd rfl (by first | exact Or.inl rfl | exact Or.inr rfl) (pe_lst pa_nil))
  (pss_cons (ps_for PassesOwn.never rfl (pi_enumA (by rfl) T.z_enumerate (pa_cons (pv 0) pa_nil)) (k_pgT (n := 2) K rfl (pgs_cons (pg_name (i := 4) sc_law_missed.nd rfl (by first | exact Or.inl rfl | exact Or.inr rfl)) (pgs_cons (pg_name (i := 5) sc_law_missed.nd rfl (by first | exact Or.inl rfl | exact Or.inr rfl)) pgs_nil))) (pss_one (ps_if (PW.pt (pw_and (pt_cmpR (k_in K) (pe_ix (kx_tup K) (pv 5) pe_int (fun _ _ => rfl)) (pe_tup (pa_cons pe_str (pa_cons pe_str (pa_cons pe_str pa_nil)))) (by rfl)) (pw_and1 (pt_cmpR (k_eqE K hr.units) (pe_lc (own := [("_law_b", 6), ("_law_r", 7)]) rfl sc_law_missed.nd (k_piL K (pv 2)) (blkOk_by (own := [("_law_b", 6), ("_law_r", 7)]) (N := ["_law_above", "_law_below", "_law_pairs_here", "_law_found", "_law_number", "_law_row", "_law_b", "_law_r"]) (sc := defScope s_law_missed) (by decide +kernel)) (fun _ _ _ _ _ => (k_pgT (n := 2) K rfl (pgs_cons (pg_name (i := 6) sc_law_missed.nd rfl (by first | exact Or.inl rfl | exact Or.inr rfl)) (pgs_cons (pg_name (i := 7) sc_law_missed.nd rfl (by first | exact Or.inl rfl | exact Or.inr rfl)) pgs_nil)))) (fun _ _ _ _ _ => (pts_one (pt_cmpR op_eq (pv 6) (pv 4) (nomark _)))) (fun _ _ _ _ _ => pe_int)) (pe_lst pa_nil) (nomark _))))) (pss_one (ps_expr (pe_bm PySem.F.plainAttrs_list PySem.F.slot_list_append PySem.F.type_list_append mt_append (pv 3) (pa_cons (pe_tup (pa_cons pe_str (pa_cons (pv 4) pa_nil))) pa_nil)))) pss_nil)))
  (pss_cons (ps_for PassesOwn.never rfl (pi_enumA (by rfl) T.z_enumerate (pa_cons (pv 1) pa_nil)) (k_pgT (n := 2) K rfl (pgs_cons (pg_name (i := 4) sc_law_missed.nd rfl (by first | exact Or.inl rfl | exact Or.inr rfl)) (pgs_cons (pg_name (i := 5) sc_law_missed.nd rfl (by first | exact Or.inl rfl | exact Or.inr rfl)) pgs_nil))) (pss_one (ps_if (PW.pt (pw_and (pt_cmpR (k_in K) (pe_ix (kx_tup K) (pv 5) pe_int (fun _ _ => rfl)) (pe_tup (pa_cons pe_str (pa_cons pe_str (pa_cons pe_str pa_nil)))) (by rfl)) (pw_and1 (pt_cmpR (k_eqE K hr.units) (pe_lc (own := [("_law_b", 6), ("_law_r", 7)]) rfl sc_law_missed.nd (k_piL K (pv 2)) (blkOk_by (own := [("_law_b", 6), ("_law_r", 7)]) (N := ["_law_above", "_law_below", "_law_pairs_here", "_law_found", "_law_number", "_law_row", "_law_b", "_law_r"]) (sc := defScope s_law_missed) (by decide +kernel)) (fun _ _ _ _ _ => (k_pgT (n := 2) K rfl (pgs_cons (pg_name (i := 6) sc_law_missed.nd rfl (by first | exact Or.inl rfl | exact Or.inr rfl)) (pgs_cons (pg_name (i := 7) sc_law_missed.nd rfl (by first | exact Or.inl rfl | exact Or.inr rfl)) pgs_nil)))) (fun _ _ _ _ _ => (pts_one (pt_cmpR op_eq (pv 7) (pv 4) (nomark _)))) (fun _ _ _ _ _ => pe_int)) (pe_lst pa_nil) (nomark _))))) (pss_one (ps_expr (pe_bm PySem.F.plainAttrs_list PySem.F.slot_list_append PySem.F.type_list_append mt_append (pv 3) (pa_cons (pe_tup (pa_cons pe_str (pa_cons (pv 4) pa_nil))) pa_nil)))) pss_nil)))
  (pss_one (ps_ret (pv 3)))))), ?_⟩
    have lz := hq.at2.len
    have ln := hq.len
    refine ⟨(by show 0 ≤ sizeLine; decide), fun D hD => ?_⟩
    generalize hX : upd H D _ = H1
    obtain ⟨S1, f1⟩ := alloc hD hX
    clear hX
    obtain ⟨asA, hTA, hRA⟩ := id hA
    have la := hRA.length
    obtain ⟨asB, hTB, hRB⟩ := id hB
    have lb := hRB.length
    have hTA1 := same_seqT S1 hTA
    refine ⟨_, rfl, ta, _, rfl, .inr ⟨hTA1, ?_⟩⟩
    refine for_it walk_enumT (fun i σ H' => ∃ (x4 x5 : Option V) (us : List Addr), σ = [some (.ref ta), some (.ref tb), some (.ref q), some (.ref D), x4, x5, none, none] ∧ Same H H' ∧ H' D = some (.lst (us.map V.ref)) ∧ At2 (HnAt K H') us (misL "bridge" ["port", "star", "down"] A (zs.map (·.1)) i) ∧ us.length ≤ i)
      ⟨none, none, [], rfl, S1, f1, .nil, Nat.le_refl _⟩ (fun i σ H' _ ⟨_, _, _, _, r, _⟩ => same_seqT r hTA) ?_ ?_
    · rintro i x σ Ha Hb hi ⟨x4, x5, us, rfl, sa, ea, at_, lu⟩ ⟨Tq, y1, y2, rfl, hTq, rfl, q1, q3⟩
      have : y1 = V.int (i : Nat) := (Option.some.inj q1).symm
      subst this
      obtain ⟨a, ha, rfl⟩ := map_get q3
      obtain ⟨r, hr1, hr2⟩ := hRA.get' ha
      generalize hX : upd Ha Tq _ = Hb
      obtain ⟨Sb, fb⟩ := alloc hTq hX
      clear hX
      have sb := sa.trans Sb
      have row := same_seqT sb hr2
      rw [List.length_map] at hi
      refine ⟨Tq, _, rfl, SqT.of fb, rfl, _, _, rfl, _, _, rfl, rfl, _, rfl, a, _, 1, _, rfl, rfl, row, rfl, (by show 3 ≤ sizeLine; decide), fun t7 ht7 => ?_⟩
      generalize hX : upd Hb t7 _ = Hc
      obtain ⟨Sc, fc⟩ := alloc ht7 hX
      clear hX
      have sc := sb.trans Sc
      have eb : inV (V.str r.l) [V.str (Str.ofString "port"), V.str (Str.ofString "star"), V.str (Str.ofString "down")] = decide (r.l ∈ (["port", "star", "down"] : List Str)) := in_strs (ls := ["port", "star", "down"])
      refine ⟨t7, _, rfl, .inr (SqT.of fc), rfl, rfl, decide (r.l ∈ (["port", "star", "down"] : List Str)), congrArg V.bl eb, ?_⟩
      rw [mis_succ, line_at hr1]
      have at2 : At2 (HnAt K Hc) us _ := at_.imp fun _ _ q => same_seqT (Sb.trans Sc) q
      have e2 := Sc _ _ (Sb _ _ ea)
      cases ed : decide (r.l ∈ (["port", "star", "down"] : List Str)) with
      | false => exact ⟨_, _, us, rfl, sc, e2, by simpa using at2, by omega⟩
      | true =>
        have hq2 := hq.same sc
        refine ⟨_, rfl, q, rfl, ⟨_, SqL.of hq2.e⟩, fun D2 hD2 => ?_⟩
        refine lc_it walk_list (fun m H' => Same Hc H' ∧ H' D2 = some (.lst (ones ((zs.map (·.1)).take m) i))) ⟨same_new (Same.refl _) hD2, by rw [List.take_zero]; exact upd_same⟩ (fun m H' _ r => SqL.of (r.1 _ _ hq2.e)) ?_ ?_
        · rintro m x Hd He hm ⟨sd, e_d⟩ ⟨rfl, hx⟩
          obtain ⟨a2, ha2, rfl⟩ := map_get hx
          obtain ⟨z, hz, row2⟩ := hq2.at2.get' ha2
          have row2 := row2.same sd
          rw [List.length_map] at hm
          have ez : decide (V.int z.1 = V.int (i : Int)) = decide (z.1 = (i : Int)) := by
            rw [Bool.eq_iff_iff, decide_eq_true_eq, decide_eq_true_eq]
            exact ⟨fun z => by injection z, fun z => by rw [z]⟩
          refine ⟨a2, _, rfl, row2, rfl, _, _, rfl, _, _, rfl, rfl, rfl, ?_⟩
          refine ⟨_, rfl, _, rfl, rfl, decide (z.1 = (i : Int)), congrArg V.bl ez, ?_⟩
          rw [ones_snoc (z := z.1) (by rw [List.getElem?_map, hz]; rfl)]
          refine ite2 (fun y => ?_) (fun y => ?_)
          · refine ⟨_, e_d, lt_sizeLine (by have := ones_len ((zs.map (·.1)).take m) i; rw [List.length_take, List.length_map] at this; omega), same_own sd hD2, ?_⟩
            rw [upd_same, if_pos (of_decide_eq_true y)]
          · rw [if_neg (of_decide_eq_false (Bool.eq_false_iff.mpr y)), List.append_nil]
            exact ⟨sd, e_d⟩
        · rintro Hd ⟨sd, e_d⟩
          rw [List.length_map, lz, List.take_of_length_le (by rw [List.length_map]; omega)] at e_d
          refine ⟨(by show 0 ≤ sizeLine; decide), fun e3 he3 => ?_⟩
          generalize hX : upd Hd e3 _ = He
          obtain ⟨Se, fe⟩ := alloc he3 hX
          clear hX
          have se := sc.trans (sd.trans Se)
          refine ⟨D2, e3, _, rfl, rfl, SqL.of (Se _ _ e_d), SqL.of fe, freeJ (zs.map (·.1)) i, congrArg V.bl (ones_empty _ _), ?_⟩
          have at3 : At2 (HnAt K He) us _ := at2.imp fun _ _ q => same_seqT (sd.trans Se) q
          have e4 := (sd.trans Se) _ _ e2
          rw [Bool.true_and]
          refine ite2 (fun y => ?_) (fun y => ?_)
          · refine ⟨_, rfl, .inl ⟨rfl, _, SqL.of e4⟩, _, rfl, (by show 2 ≤ sizeLine; decide), fun v hv => ?_⟩
            generalize hX : upd He v _ = Hf
            obtain ⟨Sf, ff⟩ := alloc hv hX
            clear hX
            have e5 := Sf _ _ e4
            refine ⟨D, _, _, rfl, rfl, e5, lt_sizeLine (by rw [List.length_map]; omega), ?_⟩
            refine ⟨_, _, us ++ [v], rfl, same_own (se.trans Sf) hD, by rw [upd_same, List.map_append]; rfl, ?_, by rw [List.length_append]; show _ + 1 ≤ _; omega⟩
            rw [if_pos y]
            exact hn_upd ((at3.imp fun _ _ q => same_seqT Sf q).snoc (SqT.of ff)) e5
          · rw [if_neg y, List.append_nil]
            exact ⟨_, _, us, rfl, se, e4, at3, by omega⟩
    rintro σ H2 ⟨x4, x5, us, rfl, S2, e2, at2, lu⟩
    rw [List.length_map, la] at at2 lu
    have hTB2 := same_seqT S2 hTB
    refine ⟨_, rfl, tb, _, rfl, .inr ⟨hTB2, ?_⟩⟩
    refine for_it walk_enumT (fun i σ H' => ∃ (x4 x5 : Option V) (us : List Addr), σ = [some (.ref ta), some (.ref tb), some (.ref q), some (.ref D), x4, x5, none, none] ∧ Same H H' ∧ H' D = some (.lst (us.map V.ref)) ∧ At2 (HnAt K H') us (misL "bridge" ["port", "star", "down"] A (zs.map (·.1)) A.length ++ misL "room" ["aport", "astar", "up"] B (zs.map (·.2)) i) ∧ us.length ≤ A.length + i)
      ⟨x4, x5, us, rfl, S2, e2, by simpa [misL] using at2, lu⟩ (fun i σ H' _ ⟨_, _, _, _, r, _⟩ => same_seqT r hTB) ?_ ?_
    · rintro i x σ Ha Hb hi ⟨x4, x5, us, rfl, sa, ea, at_, lu⟩ ⟨Tq, y1, y2, rfl, hTq, rfl, q1, q3⟩
      have : y1 = V.int (i : Nat) := (Option.some.inj q1).symm
      subst this
      obtain ⟨a, ha, rfl⟩ := map_get q3
      obtain ⟨r, hr1, hr2⟩ := hRB.get' ha
      generalize hX : upd Ha Tq _ = Hb
      obtain ⟨Sb, fb⟩ := alloc hTq hX
      clear hX
      have sb := sa.trans Sb
      have row := same_seqT sb hr2
      rw [List.length_map] at hi
      refine ⟨Tq, _, rfl, SqT.of fb, rfl, _, _, rfl, _, _, rfl, rfl, _, rfl, a, _, 1, _, rfl, rfl, row, rfl, (by show 3 ≤ sizeLine; decide), fun t7 ht7 => ?_⟩
      generalize hX : upd Hb t7 _ = Hc
      obtain ⟨Sc, fc⟩ := alloc ht7 hX
      clear hX
      have sc := sb.trans Sc
      have eb : inV (V.str r.l) [V.str (Str.ofString "aport"), V.str (Str.ofString "astar"), V.str (Str.ofString "up")] = decide (r.l ∈ (["aport", "astar", "up"] : List Str)) := in_strs (ls := ["aport", "astar", "up"])
      refine ⟨t7, _, rfl, .inr (SqT.of fc), rfl, rfl, decide (r.l ∈ (["aport", "astar", "up"] : List Str)), congrArg V.bl eb, ?_⟩
      rw [mis_succ, line_at hr1]
      have at2 : At2 (HnAt K Hc) us _ := at_.imp fun _ _ q => same_seqT (Sb.trans Sc) q
      have e2 := Sc _ _ (Sb _ _ ea)
      cases ed : decide (r.l ∈ (["aport", "astar", "up"] : List Str)) with
      | false => exact ⟨_, _, us, rfl, sc, e2, by simpa using at2, by omega⟩
      | true =>
        have hq2 := hq.same sc
        refine ⟨_, rfl, q, rfl, ⟨_, SqL.of hq2.e⟩, fun D2 hD2 => ?_⟩
        refine lc_it walk_list (fun m H' => Same Hc H' ∧ H' D2 = some (.lst (ones ((zs.map (·.2)).take m) i))) ⟨same_new (Same.refl _) hD2, by rw [List.take_zero]; exact upd_same⟩ (fun m H' _ r => SqL.of (r.1 _ _ hq2.e)) ?_ ?_
        · rintro m x Hd He hm ⟨sd, e_d⟩ ⟨rfl, hx⟩
          obtain ⟨a2, ha2, rfl⟩ := map_get hx
          obtain ⟨z, hz, row2⟩ := hq2.at2.get' ha2
          have row2 := row2.same sd
          rw [List.length_map] at hm
          have ez : decide (V.int z.2 = V.int (i : Int)) = decide (z.2 = (i : Int)) := by
            rw [Bool.eq_iff_iff, decide_eq_true_eq, decide_eq_true_eq]
            exact ⟨fun z => by injection z, fun z => by rw [z]⟩
          refine ⟨a2, _, rfl, row2, rfl, _, _, rfl, _, _, rfl, rfl, rfl, ?_⟩
          refine ⟨_, rfl, _, rfl, rfl, decide (z.2 = (i : Int)), congrArg V.bl ez, ?_⟩
          rw [ones_snoc (z := z.2) (by rw [List.getElem?_map, hz]; rfl)]
          refine ite2 (fun y => ?_) (fun y => ?_)
          · refine ⟨_, e_d, lt_sizeLine (by have := ones_len ((zs.map (·.2)).take m) i; rw [List.length_take, List.length_map] at this; omega), same_own sd hD2, ?_⟩
            rw [upd_same, if_pos (of_decide_eq_true y)]
          · rw [if_neg (of_decide_eq_false (Bool.eq_false_iff.mpr y)), List.append_nil]
            exact ⟨sd, e_d⟩
        · rintro Hd ⟨sd, e_d⟩
          rw [List.length_map, lz, List.take_of_length_le (by rw [List.length_map]; omega)] at e_d
          refine ⟨(by show 0 ≤ sizeLine; decide), fun e3 he3 => ?_⟩
          generalize hX : upd Hd e3 _ = He
          obtain ⟨Se, fe⟩ := alloc he3 hX
          clear hX
          have se := sc.trans (sd.trans Se)
          refine ⟨D2, e3, _, rfl, rfl, SqL.of (Se _ _ e_d), SqL.of fe, freeJ (zs.map (·.2)) i, congrArg V.bl (ones_empty _ _), ?_⟩
          have at3 : At2 (HnAt K He) us _ := at2.imp fun _ _ q => same_seqT (sd.trans Se) q
          have e4 := (sd.trans Se) _ _ e2
          rw [Bool.true_and]
          refine ite2 (fun y => ?_) (fun y => ?_)
          · refine ⟨_, rfl, .inl ⟨rfl, _, SqL.of e4⟩, _, rfl, (by show 2 ≤ sizeLine; decide), fun v hv => ?_⟩
            generalize hX : upd He v _ = Hf
            obtain ⟨Sf, ff⟩ := alloc hv hX
            clear hX
            have e5 := Sf _ _ e4
            refine ⟨D, _, _, rfl, rfl, e5, lt_sizeLine (by rw [List.length_map]; omega), ?_⟩
            refine ⟨_, _, us ++ [v], rfl, same_own (se.trans Sf) hD, by rw [upd_same, List.map_append]; rfl, ?_, by rw [List.length_append]; show _ + 1 ≤ _; omega⟩
            rw [if_pos y, ← List.append_assoc]
            exact hn_upd ((at3.imp fun _ _ q => same_seqT Sf q).snoc (SqT.of ff)) e5
          · rw [if_neg y, List.append_nil]
            exact ⟨_, _, us, rfl, se, e4, at3, by omega⟩
    rintro σ H3 ⟨x4, x5, us, rfl, S3, e3, at3, lu⟩
    rw [List.length_map, lb] at at3
    exact ⟨_, rfl, k H3 D us S3 hD e3 at3⟩
/-! ### the law -/
def spLaw (K : PySem.W.Frag) (cs : List Addr) : Sp := fun vs H Q _ => ∃ (a : Addr) (ns : List Int), vs = [.ref a] ∧ SqL K H a (ns.map V.int) ∧ ns.length ≤ 63 ∧ (∀ c ∈ cs, H (tabOf K c) = some (.tbl #[])) ∧ ∀ H', Q (.bl true) H'
theorem law_in (K : PySem.W.Frag) (cs : List Addr) (H : Hp) (a : Addr) (ns : List Int) (h1 : ns.length ≤ 63) (_ : ∀ k ∈ ns, Builtin.Int.intBits k ≤ 1048576) (h3 : ∀ c ∈ cs, H (tabOf K c) = some (.tbl #[])) (h2 : SqL K H a (ns.map V.int)) : spLaw K cs [.ref a] H (fun v _ => v = .bl true) fun _ _ _ => False :=
  ⟨a, ns, rfl, h2, h1, h3, fun _ => rfl⟩
theorem hn_rep {xs : List (Str × Nat)} (h : ∀ x ∈ xs, (x.1 = "bridge" ∨ x.1 = "room") ∧ x.2 < 40) (l : xs.length ≤ 80) : RepOk (.list (xs.map hnD)) 2 1600 := by
  refine (RepOk.list (k := 1) (n := 18) fun d hd => ?_).mono (Nat.le_refl _) (by rw [List.length_map]; omega)
  obtain ⟨x, hx, rfl⟩ := List.mem_map.mp hd
  obtain ⟨h1, h2⟩ := h x hx
  refine (RepOk.tuple (k := 0) (n := 8) fun d hd => ?_).mono (Nat.le_refl _) (by show 2 * 9 ≤ 18; decide)
  have z : d = .str x.1 ∨ d = .int x.2 := by simpa using hd
  rcases z with rfl | rfl
  · rcases h1 with e | e <;> rw [e] <;> exact RepOk.tok ⟨by decide +kernel, by decide +kernel⟩
  · exact (RepOk.int (by omega)).mono (Nat.le_refl _) (by omega)
theorem mis_mem {h : Str} {ls : List Str} {rs : List Row} {seen : List Int} {n : Nat} {x : Str × Nat} (m : x ∈ misL h ls rs seen n) : x.1 = h ∧ x.2 < n := by
  unfold misL at m
  obtain ⟨j, hj, rfl⟩ := List.mem_map.mp m
  exact ⟨rfl, List.mem_range.mp (List.mem_filter.mp hj).1⟩
theorem mis_len {h : Str} {ls : List Str} {rs : List Row} {seen : List Int} {n : Nat} : (misL h ls rs seen n).length ≤ n := by
  unfold misL
  rw [List.length_map]
  exact Nat.le_trans (List.length_filter_le _ _) (Nat.le_of_eq List.length_range)
theorem miss_len {A B : List Row} {zs : List (Int × Int)} (lA : A.length ≤ 40) (lB : B.length ≤ 40) : (missZ A B zs).length ≤ 80 := by
  unfold missZ
  rw [List.length_append]
  have := mis_len (h := "bridge") (ls := ["port", "star", "down"]) (rs := A) (seen := zs.map (·.1)) (n := A.length)
  have := mis_len (h := "room") (ls := ["aport", "astar", "up"]) (rs := B) (seen := zs.map (·.2)) (n := B.length)
  omega
theorem miss_rep {A B : List Row} {zs : List (Int × Int)} (lA : A.length ≤ 40) (lB : B.length ≤ 40) : RepOk (.list ((missZ A B zs).map hnD)) 2 1600 := by
  refine hn_rep (fun x hx => ?_) (miss_len lA lB)
  rcases List.mem_append.mp hx with z | z
  · obtain ⟨h1, h2⟩ := mis_mem z
    exact ⟨.inl h1, by omega⟩
  · obtain ⟨h1, h2⟩ := mis_mem z
    exact ⟨.inr h1, by omega⟩
theorem hn_dp {K : PySem.W.Frag} {H : Hp} {u : Addr} {as : List Addr} {xs : List (Str × Nat)} (e : H u = some (.lst (as.map V.ref))) (h : At2 (HnAt K H) as xs) : Dp K H (.ref u) (.list (xs.map hnD)) :=
  .lst (SqL.of e) (h.dp fun _ x q => .tup q (.cons (.str _) (.cons (.int _) .nil)))
theorem prl_dp {K : PySem.W.Frag} {H : Hp} {u : Addr} {as : List Addr} {xs : List (Int × Int)} (e : H u = some (.lst (as.map V.ref))) (h : At2 (PrAt K H) as xs) : Dp K H (.ref u) (.list (xs.map prD)) := .lst (SqL.of e) (h.dp fun _ _ q => q.dp)
theorem prs_in_rep {A B : List Row} {zs : List (Int × Int)} (lA : A.length ≤ 40) (lB : B.length ≤ 40) (h : ∀ z ∈ zs, InAB A B z) (l : zs.length ≤ 1600) : RepOk (.list (zs.map prD)) 2 4800 := by
  refine prs_rep (n := 1600) (fun x hx => ?_) l
  obtain ⟨b, r, rfl, b1, r1⟩ := h x hx
  have two : (40 : Nat) < 2 ^ 398 := by decide +kernel
  constructor
  · show ((b : Int)).natAbs < 2 ^ 398
    omega
  · show ((r : Int)).natAbs < 2 ^ 398
    omega
theorem ok_law (T : Txt w K mg) (TB : ∀ c ∈ [T.cc_levels_of, T.cc_life], TabB base mg c (tabOf K c)) : GOk P w K mg base CX0 9 T.a_law T.d_law ["_law_script"] (spLaw K [T.cc_levels_of, T.cc_life]) := by
  have TB_life := TB T.cc_life (by simp)
  have TB_levels_of := TB T.cc_levels_of (by simp)
  have G_draw := ok_draw (P := P) (base := base) T
  have G_pen := ok_pen (P := P) (base := base) T
  have G_life := ok_life (P := P) T TB_life
  have G_pairs := ok_lpairs (P := P) T TB_levels_of
  have G_law_missed := ok_law_missed (P := P) (base := base) T
  have G_missed := ok_missed (P := P) (base := base) T
  refine GOk.body T.F_law sc_law (fun vs H Q E h => ?_) (fun cdv A' outer s H vs Q E hr hG h => ?_)
  · obtain ⟨a, ns, rfl, _⟩ := h
    rfl
  · obtain ⟨a, ns, rfl, hS, hl, htab, k⟩ := h
    have hr_draw := hr.mono (show 1 ≤ 8 by decide)
    have hr_pen := hr.mono (show 1 ≤ 8 by decide)
    have hr_life := hr.mono (show 3 ≤ 8 by decide)
    have hr_pairs := hr
    have hr_law_missed := hr.mono (show 1 ≤ 8 by decide)
    have hr_missed := hr.mono (show 2 ≤ 8 by decide)
    refine ⟨_, (pss_cons (ps_set (i := 1) sc_law.nd rfl (by first | exact Or.inl rfl | exact Or.inr rfl) (pe_call G_pen hr_pen (by rfl) T.g_pen T.F_pen.kp T.b_pen .nil pass0 (pa_cons (pv 0) pa_nil)))
  (pss_cons (ps_for PassesOwn.never rfl (pi_range1 (by rfl) T.z_range (pa_cons pe_int pa_nil)) (pg_name (i := 2) sc_law.nd rfl (by first | exact Or.inl rfl | exact Or.inr rfl)) (pss_cons (ps_asg (pe_call G_life hr_life (by rfl) T.g_life T.F_life.kp T.b_life .nil pass0 (pa_cons (pv 1) (pa_cons (pe_ix (kx_list K) (pe_lst (pa_cons pe_int (pa_cons pe_int pa_nil))) (pe_callTy call_int1 (by rfl) T.z_int (by decide +kernel) (pa_cons (pe_cmpR op_eq (pe_call G_draw hr_draw (by rfl) T.g_draw T.F_draw.kp T.b_draw .nil pass0 (pa_cons (pv 1) (pa_cons pe_int pa_nil))) pe_int (nomark _)) pa_nil)) (fun _ _ => rfl)) pa_nil))) (k_pgT (n := 4) K rfl (pgs_cons (pg_name (i := 3) sc_law.nd rfl (by first | exact Or.inl rfl | exact Or.inr rfl)) (pgs_cons (pg_name (i := 4) sc_law.nd rfl (by first | exact Or.inl rfl | exact Or.inr rfl)) (pgs_cons (pg_name (i := 5) sc_law.nd rfl (by first | exact Or.inl rfl | exact Or.inr rfl)) (pgs_cons (pg_name (i := 6) sc_law.nd rfl (by first | exact Or.inl rfl | exact Or.inr rfl)) pgs_nil))))))
  (pss_one (ps_for PassesOwn.never rfl (pi_range1 (by rfl) T.z_range (pa_cons pe_int pa_nil)) (pg_name (i := 7) sc_law.nd rfl (by first | exact Or.inl rfl | exact Or.inr rfl)) (pss_cons (ps_set (i := 8) sc_law.nd rfl (by first | exact Or.inl rfl | exact Or.inr rfl) (pe_call G_pairs hr_pairs (by rfl) T.g_pairs T.F_pairs.kp T.b_pairs .nil pass0 (pa_cons (pv 1) (pa_cons (pv 3) (pa_cons (pv 4) (pa_cons (pv 5) (pa_cons (pv 6) pa_nil)))))))
  (pss_cons (ps_set (i := 9) sc_law.nd rfl (by first | exact Or.inl rfl | exact Or.inr rfl) (pe_callB (k_repr K hG hr.units) (by rfl) T.z_repr (by decide +kernel) (pa_cons (pe_tup (pa_cons (pv 3) (pa_cons (pv 4) (pa_cons (pv 8) pa_nil)))) pa_nil)))
  (pss_cons (ps_set (i := 10) sc_law.nd rfl (by first | exact Or.inl rfl | exact Or.inr rfl) (pe_callB (k_repr K hG hr.units) (by rfl) T.z_repr (by decide +kernel) (pa_cons (pe_call G_law_missed hr_law_missed (by rfl) T.g_law_missed T.F_law_missed.kp T.b_law_missed .nil pass0 (pa_cons (pv 3) (pa_cons (pv 4) (pa_cons (pv 8) pa_nil)))) pa_nil)))
  (pss_cons (ps_set (i := 11) sc_law.nd rfl (by first | exact Or.inl rfl | exact Or.inr rfl) (pe_call G_missed hr_missed (by rfl) T.g_missed T.F_missed.kp T.b_missed .nil pass0 (pa_cons (pv 3) (pa_cons (pv 4) (pa_cons (pv 8) pa_nil)))))
  (pss_cons (ps_if (PW.pt (pw_or (pt_not (pt_val (pe_callB (k_isi K) (by rfl) T.z_isinstance (by decide +kernel) (pa_cons (pv 11) (pa_cons (pe_bltn (v := .ty "list") (by rfl) T.z_list (by decide +kernel) rfl) pa_nil))))) (pw_or1 (pt_cmpR op_ne (pe_callB (k_repr K hG hr.units) (by rfl) T.z_repr (by decide +kernel) (pa_cons (pv 11) pa_nil)) (pv 10) (nomark _))))) (pss_one (ps_ret pe_bl)) pss_nil)
  (pss_cons (ps_expr (pe_bm PySem.F.plainAttrs_list PySem.F.slot_list_append PySem.F.type_list_append mt_append (pv 11) (pa_cons (pe_tup (pa_cons pe_str (pa_cons pe_int pa_nil))) pa_nil)))
  (pss_cons (ps_expr (pe_bm0 PySem.F.plainAttrs_list PySem.F.slot_list_reverse PySem.F.type_list_reverse mt_reverse (pv 11)))
  (pss_cons (ps_if (pt_cmpR op_ne (pe_callB (k_repr K hG hr.units) (by rfl) T.z_repr (by decide +kernel) (pa_cons (pe_callK0 G_missed hr_missed (by rfl) T.g_missed T.F_missed.kp T.kb0_missed pass0 (pk_cons (pv 8) (pk_cons (pv 4) (pk_cons (pv 3) pk_nil)))) pa_nil)) (pv 10) (nomark _)) (pss_one (ps_ret pe_bl)) pss_nil)
  (pss_one (ps_if (pt_cmpR op_ne (pe_callB (k_repr K hG hr.units) (by rfl) T.z_repr (by decide +kernel) (pa_cons (pe_tup (pa_cons (pv 3) (pa_cons (pv 4) (pa_cons (pv 8) pa_nil)))) pa_nil)) (pv 9) (nomark _)) (pss_one (ps_ret pe_bl)) pss_nil))))))))))))))
  (pss_one (ps_ret (pe_cmpR (k_eqE K hr.units) (pe_call G_missed hr_missed (by rfl) T.g_missed T.F_missed.kp T.b_missed .nil pass0 (pa_cons (pe_tup pa_nil) (pa_cons (pe_tup pa_nil) (pa_cons (pe_lst pa_nil) pa_nil)))) (pe_lst pa_nil) (nomark _)))))), ?_⟩
    have say : ∀ d : Str, (!decide (V.str d = V.str d)) = false := fun d => by rw [decide_eq_true rfl]; rfl
    have tabs0 : Tabs (tabsT T) H := fun q hq => by
      have hq : q = (tabOf K T.cc_levels_of, lamQ "levels_of") ∨ q = (tabOf K T.cc_life, lamQ "_law_life") := by simpa [tabsT] using hq
      rcases hq with rfl | rfl
      · exact TabS.nil (htab _ (by simp))
      · exact TabS.nil (htab _ (by simp))
    refine ⟨_, rfl, a, ns, rfl, hS, hl, fun H1 p c S1 _ hp hc => ?_⟩
    have g1 := GoN.refl hp hc (tabs0.ext S1)
    refine ⟨3, rfl, by decide, by decide, ?_⟩
    refine for_it walk_range (fun i σ H' => ∃ (x2 x3 x4 x5 x6 x7 x8 x9 x10 x11 : Option V), σ = [some (.ref a), some (.ref p), x2, x3, x4, x5, x6, x7, x8, x9, x10, x11] ∧ GoN K (tabsT T) p c H1 (5000 * i) H')
      ⟨none, none, none, none, none, none, none, none, none, none, rfl, g1⟩ (fun _ _ _ _ _ => trivial) ?_ ?_
    · rintro i x σ _ H2 hi ⟨x2, x3, x4, x5, x6, x7, x8, x9, x10, x11, rfl, g2⟩ ⟨rfl, rfl⟩
      have hi : i < 3 := hi
      refine ⟨_, rfl, (by show 2 ≤ sizeLine; decide), fun l1 hl1 => ?_⟩
      generalize hX : upd H2 l1 _ = H3
      obtain ⟨S3, f3⟩ := alloc hl1 hX
      clear hX
      have G3 := g2.same S3
      have n1 := Ne.symm (g2.ne_new hl1)
      refine ⟨_, rfl, p, c, _, _, rfl, G3.pen, G3.cel, by omega, by decide, by decide, fun H4 r4 g4 a4 b4 => ?_⟩
      have G4 := G3.go g4
      obtain ⟨m, hm, m0, m1⟩ : ∃ z : Int, atI [V.int 9, V.int 30] (if decide (V.int r4 = V.int 0) = true then 1 else 0) = some (V.int z) ∧ 1 ≤ z ∧ z ≤ 40 := by
        by_cases z : V.int r4 = V.int 0
        · rw [decide_eq_true z]
          exact ⟨30, rfl, by decide, by decide⟩
        · rw [decide_eq_false z]
          exact ⟨9, rfl, by decide, by decide⟩
      refine ⟨rfl, .inr ⟨_, rfl, l1, _, _, _, rfl, rfl, g4.but.seqL n1 (SqL.of f3), hm, ?_⟩⟩
      refine ⟨p, c, _, m, rfl, G4.pen, G4.cel, by omega, m0, m1, G4.tab, fun H5 u ta tb gap late A B g5 hu hA hB lA lB oA oB _ _ e0 e1 s0 s1 => ?_⟩
      have G5 := G4.trans g5
      refine ⟨u, _, rfl, hu, rfl, _, _, rfl, _, _, rfl, _, _, rfl, _, _, rfl, rfl, ?_⟩
      have rpA := log_rep oA (by omega)
      have rpB := log_rep oB (by omega)
      refine ⟨2, rfl, by decide, by decide, ?_⟩
      refine for_it walk_range (fun j σ H' => ∃ (x7 x8 x9 x10 x11 : Option V), σ = [some (.ref a), some (.ref p), some (.int (0 + i)), some (.ref ta), some (.ref tb), some (.int gap), some (.int late), x7, x8, x9, x10, x11] ∧ GoN K (tabsT T) p c H1 (5000 * i + 600 + 1700 * j) H' ∧ LogAt K H' ta A ∧ LogAt K H' tb B)
        ⟨x7, x8, x9, x10, x11, rfl, G5.mono (by omega), hA, hB⟩ (fun _ _ _ _ _ => trivial) ?_ ?_
      · rintro j x σ _ H6 hj ⟨x7, x8, x9, x10, x11, rfl, G6, hA6, hB6⟩ ⟨rfl, rfl⟩
        have hj : j < 2 := hj
        obtain ⟨_, _, pe6, _⟩ := id G6.pen
        refine ⟨_, rfl, _, rfl, _, rfl, _, rfl, _, rfl, p, c, _, ta, tb, A, B, gap, late, rfl, G6.pen, G6.cel, by omega, hA6, hB6, lA, lB, oA, oB, G6.tab, fun H7 q as zs g7 P7 => ?_⟩
        have G7 := G6.trans g7
        have hA7 := hA6.butN pe6 g7.but
        have hB7 := hB6.butN pe6 g7.but
        have rpP := prs_in_rep lA lB P7.ins P7.len
        have rp : RepOk (.tuple [.tuple (A.map Row.d), .tuple (B.map Row.d), .list (zs.map prD)]) 3 14403 := by
          refine (RepOk.tuple (k := 2) (n := 4800) fun d hd => ?_).mono (Nat.le_refl _) (by show 3 * 4801 ≤ 14403; decide)
          have z : d = .tuple (A.map Row.d) ∨ d = .tuple (B.map Row.d) ∨ d = .list (zs.map prD) := by simpa using hd
          rcases z with rfl | rfl | rfl
          · exact rpA.mono (Nat.le_refl _) (by decide)
          · exact rpB.mono (Nat.le_refl _) (by decide)
          · exact rpP
        have both : ∀ {H' : Hp} {v : Addr}, SqT K H' v [.ref ta, .ref tb, .ref q] → Same H7 H' → Dp K H' (.ref v) (.tuple [.tuple (A.map Row.d), .tuple (B.map Row.d), .list (zs.map prD)]) := fun h1 S => .tup h1 (.cons (hA7.same S).dp (.cons (hB7.same S).dp (.cons (prl_dp (P7.same S).e (P7.same S).at2) .nil)))
        have rpM := miss_rep (zs := zs) lA lB
        refine ⟨_, rfl, _, rfl, _, rfl, (by show 3 ≤ sizeLine; decide), fun u3 hu3 => ?_⟩
        generalize hX : upd H7 u3 _ = H8
        obtain ⟨S8, f8⟩ := alloc hu3 hX
        clear hX
        refine ⟨_, _, _, _, rfl, both (SqT.of f8) S8, rp, by decide, by decide, ?_⟩
        -- the rows that were missed
        refine ⟨_, rfl, _, rfl, _, rfl, p, ta, tb, q, A, B, as, zs, rfl, hA7.same S8, hB7.same S8, lA, lB, oA, oB, P7.same S8, fun H9 u9 us9 S9 n9 e9 at9 => ?_⟩
        have S79 := S8.trans S9
        refine ⟨_, _, _, _, rfl, hn_dp e9 at9, rpM, by decide, by decide, ?_⟩
        refine ⟨_, rfl, _, rfl, _, rfl, p, ta, tb, q, A, B, as, zs, rfl, hA7.same S79, hB7.same S79, lA, lB, oA, oB, P7.same S79, fun H10 f us S10 nf ef atf => ?_⟩
        have S710 := S79.trans S10
        refine ⟨_, rfl, _, _, _, _, true, rfl, ClsV.ty "list", seqL_ty (SqL.of ef), kit_ty (by decide +kernel), _, rfl, ?_⟩
        show if (!true) = true then _ else _
        refine iteF ?_
        refine ⟨_, rfl, _, _, _, _, rfl, hn_dp ef atf, rpM, by decide, by decide, ?_⟩
        refine ⟨_, rfl, rfl, _, rfl, ?_⟩
        rw [say]
        refine iteF ?_
        -- what is told is changed
        refine ⟨_, rfl, .inl ⟨rfl, _, SqL.of ef⟩, ?_⟩
        refine ⟨(by show 2 ≤ sizeLine; decide), fun v hv => ?_⟩
        generalize hX : upd H10 v _ = H11
        obtain ⟨S11, f11⟩ := alloc hv hX
        clear hX
        have e11 := S11 _ _ ef
        have l2 : us.length ≤ 80 := Nat.le_trans (Nat.le_of_eq atf.len) (miss_len lA lB)
        refine ⟨f, _, _, rfl, rfl, e11, lt_sizeLine (by rw [List.length_map]; omega), ?_⟩
        have fr2 : H7 f = none := S79.free nf
        have e12 : upd H11 f (.lst (us.map V.ref ++ [V.ref v])) f = some (.lst (us.map V.ref ++ [V.ref v])) := upd_same
        have S12 : Same H7 (upd H11 f (.lst (us.map V.ref ++ [V.ref v]))) := same_own (S710.trans S11) fr2
        generalize upd H11 f (.lst (us.map V.ref ++ [V.ref v])) = H12 at e12 S12 ⊢
        refine ⟨_, rfl, .inl ⟨rfl, _, SqL.of e12⟩, ?_⟩
        refine ⟨f, _, rfl, rfl, e12, ?_⟩
        have S13 : Same H7 (upd H12 f (.lst (us.map V.ref ++ [V.ref v]).reverse)) := same_own S12 fr2
        generalize upd H12 f (.lst (us.map V.ref ++ [V.ref v]).reverse) = H13 at S13 ⊢
        refine ⟨_, rfl, _, rfl, _, rfl, p, ta, tb, q, A, B, as, zs, rfl, hA7.same S13, hB7.same S13, lA, lB, oA, oB, P7.same S13, fun H14 u4 us4 S14 n14 e14 at14 => ?_⟩
        refine ⟨_, _, _, _, rfl, hn_dp e14 at14, rpM, by decide, by decide, ?_⟩
        have S714 := S13.trans S14
        refine ⟨_, rfl, rfl, _, rfl, ?_⟩
        rw [say]
        refine iteF ?_
        refine ⟨_, rfl, _, rfl, _, rfl, (by show 3 ≤ sizeLine; decide), fun u5 hu5 => ?_⟩
        generalize hX : upd H14 u5 _ = H15
        obtain ⟨S15, f15⟩ := alloc hu5 hX
        clear hX
        have S715 := S714.trans S15
        refine ⟨_, _, _, _, rfl, both (SqT.of f15) S715, rp, by decide, by decide, ?_⟩
        refine ⟨_, rfl, rfl, _, rfl, ?_⟩
        rw [say]
        refine iteF ?_
        exact ⟨_, _, _, _, _, rfl, (G7.same S715).mono (by omega), hA7.same S715, hB7.same S715⟩
      · rintro σ H6 ⟨x7, x8, x9, x10, x11, rfl, G6, hA6, hB6⟩
        have G6 : GoN K (tabsT T) p c H1 (5000 * i + 600 + 1700 * 2) H6 := G6
        exact ⟨_, _, _, _, _, _, _, _, _, _, rfl, G6.mono (by omega)⟩
    · rintro σ H2 ⟨x2, x3, x4, x5, x6, x7, x8, x9, x10, x11, rfl, g2⟩
      refine ⟨(by show 0 ≤ sizeLine; decide), fun e1 he1 => ?_⟩
      generalize hX : upd H2 e1 _ = H3
      obtain ⟨S3, f3⟩ := alloc he1 hX
      clear hX
      refine ⟨(by show 0 ≤ sizeLine; decide), fun e2 he2 => ?_⟩
      generalize hX : upd H3 e2 _ = H4
      obtain ⟨S4, f4⟩ := alloc he2 hX
      clear hX
      refine ⟨(by show 0 ≤ sizeLine; decide), fun e3 he3 => ?_⟩
      generalize hX : upd H4 e3 _ = H5
      obtain ⟨S5, f5⟩ := alloc he3 hX
      clear hX
      have n3 := Ne.symm (((g2.same S3).same S4).ne_new he3)
      refine ⟨p, e1, e2, e3, [], [], [], [], rfl, ⟨[], SqT.of (S5 _ _ (S4 _ _ f3)), .nil⟩, ⟨[], SqT.of (S5 _ _ f4), .nil⟩, by decide, by decide, (fun _ z => nomatch z), (fun _ z => nomatch z), ⟨n3, f5, .nil, by decide, fun _ z => nomatch z⟩, fun H9 u us S9 n9 e9 at9 => ?_⟩
      refine ⟨(by show 0 ≤ sizeLine; decide), fun e4 he4 => ?_⟩
      generalize hX : upd H9 e4 _ = H10
      obtain ⟨S10, f10⟩ := alloc he4 hX
      clear hX
      have eu : us = [] := List.eq_nil_of_length_eq_zero at9.len
      subst eu
      refine ⟨u, e4, _, rfl, rfl, SqL.of (S10 _ _ e9), SqL.of f10, ?_⟩
      exact k _
end
theorem all_mk {l : PySem.W.OpenLaw} {w : World} {K : PySem.W.Frag} {h : Heap} {mg : Str → Option Value} {fa : Addr} (X : K.In h) (G : h.Ns mainGlobals mg) (hfa : mg "law" = some (.ref fa))
    {f0 : Addr} {od0 an0 : Option Addr} {sl0 : Array (Option Value)} {oc0 kV0 dc0 pm0 cd0 ct0 : Value} (a0 : PySem.W.nsIn K mainGlobals "is_whole" = some (some (.ref f0))) (l0 : K.lookup f0 = some ⟨oc0, od0, .func (PySem.W.fnOf "is_whole" "is_whole" (defArgs s_is_whole) (defBody s_is_whole) (defScope s_is_whole) .none kV0 dc0 pm0 an0 cd0 ct0), sl0⟩) (c0 : PySem.W.codeIn K cd0 "is_whole" = true) (k0 : PySem.W.keepIn K (.ref f0) = true)
    {f1 : Addr} {od1 an1 : Option Addr} {sl1 : Array (Option Value)} {oc1 kV1 dc1 pm1 cd1 ct1 : Value} (a1 : PySem.W.nsIn K mainGlobals "sent_from" = some (some (.ref f1))) (l1 : K.lookup f1 = some ⟨oc1, od1, .func (PySem.W.fnOf "sent_from" "sent_from" (defArgs s_sent_from) (defBody s_sent_from) (defScope s_sent_from) .none kV1 dc1 pm1 an1 cd1 ct1), sl1⟩) (c1 : PySem.W.codeIn K cd1 "sent_from" = true) (k1 : PySem.W.keepIn K (.ref f1) = true)
    {f2 : Addr} {od2 an2 : Option Addr} {sl2 : Array (Option Value)} {oc2 kV2 dc2 pm2 cd2 ct2 : Value} (a2 : PySem.W.nsIn K mainGlobals "missed" = some (some (.ref f2))) (l2 : K.lookup f2 = some ⟨oc2, od2, .func (PySem.W.fnOf "missed" "missed" (defArgs s_missed) (defBody s_missed) (defScope s_missed) .none kV2 dc2 pm2 an2 cd2 ct2), sl2⟩) (c2 : PySem.W.codeIn K cd2 "missed" = true) (k2 : PySem.W.keepIn K (.ref f2) = true)
    {f3 : Addr} {od3 an3 : Option Addr} {sl3 : Array (Option Value)} {oc3 kV3 dc3 pm3 cd3 ct3 : Value} (a3 : PySem.W.nsIn K mainGlobals "unpaired" = some (some (.ref f3))) (l3 : K.lookup f3 = some ⟨oc3, od3, .func (PySem.W.fnOf "unpaired" "unpaired" (defArgs s_unpaired) (defBody s_unpaired) (defScope s_unpaired) .none kV3 dc3 pm3 an3 cd3 ct3), sl3⟩) (c3 : PySem.W.codeIn K cd3 "unpaired" = true) (k3 : PySem.W.keepIn K (.ref f3) = true)
    {f4 : Addr} {od4 an4 : Option Addr} {sl4 : Array (Option Value)} {oc4 kV4 dc4 pm4 cd4 ct4 : Value} (a4 : PySem.W.nsIn K mainGlobals "is_pair" = some (some (.ref f4))) (l4 : K.lookup f4 = some ⟨oc4, od4, .func (PySem.W.fnOf "is_pair" "is_pair" (defArgs s_is_pair) (defBody s_is_pair) (defScope s_is_pair) .none kV4 dc4 pm4 an4 cd4 ct4), sl4⟩) (c4 : PySem.W.codeIn K cd4 "is_pair" = true) (k4 : PySem.W.keepIn K (.ref f4) = true)
    {f5 : Addr} {od5 an5 : Option Addr} {sl5 : Array (Option Value)} {oc5 kV5 dc5 pm5 cd5 ct5 : Value} (a5 : PySem.W.nsIn K mainGlobals "is_number_in" = some (some (.ref f5))) (l5 : K.lookup f5 = some ⟨oc5, od5, .func (PySem.W.fnOf "is_number_in" "is_number_in" (defArgs s_is_number_in) (defBody s_is_number_in) (defScope s_is_number_in) .none kV5 dc5 pm5 an5 cd5 ct5), sl5⟩) (c5 : PySem.W.codeIn K cd5 "is_number_in" = true) (k5 : PySem.W.keepIn K (.ref f5) = true)
    {f6 T6 : Addr} {tc6 : Value} {td6 : Option Addr} {its6 : Array Value} {tn6 : Nat} {tsl6 : Array (Option Value)} {od6 an6 : Option Addr} {sl6 : Array (Option Value)} {oc6 kV6 dc6 pm6 cd6 ct6 : Value} (a6 : PySem.W.nsIn K mainGlobals "span" = some (some (.ref f6))) (l6 : K.lookup f6 = some ⟨oc6, od6, .func (PySem.W.fnOf "span" "span" (defArgs s_span) (defBody s_span) (defScope s_span) (.ref T6) kV6 dc6 pm6 an6 cd6 ct6), sl6⟩) (c6 : PySem.W.codeIn K cd6 "span" = true) (k6 : PySem.W.keepIn K (.ref f6) = true) (lt6 : K.lookup T6 = some ⟨tc6, td6, .seq its6 tn6, tsl6⟩) (vt6 : Vals [V.int (0)] its6.toList)
    {f7 : Addr} {od7 an7 : Option Addr} {sl7 : Array (Option Value)} {oc7 kV7 dc7 pm7 cd7 ct7 : Value} (a7 : PySem.W.nsIn K mainGlobals "fits" = some (some (.ref f7))) (l7 : K.lookup f7 = some ⟨oc7, od7, .func (PySem.W.fnOf "fits" "fits" (defArgs s_fits) (defBody s_fits) (defScope s_fits) .none kV7 dc7 pm7 an7 cd7 ct7), sl7⟩) (c7 : PySem.W.codeIn K cd7 "fits" = true) (k7 : PySem.W.keepIn K (.ref f7) = true)
    {f8 : Addr} {od8 an8 : Option Addr} {sl8 : Array (Option Value)} {oc8 kV8 dc8 pm8 cd8 ct8 : Value} (a8 : PySem.W.nsIn K mainGlobals "all_pairs" = some (some (.ref f8))) (l8 : K.lookup f8 = some ⟨oc8, od8, .func (PySem.W.fnOf "all_pairs" "all_pairs" (defArgs s_all_pairs) (defBody s_all_pairs) (defScope s_all_pairs) .none kV8 dc8 pm8 an8 cd8 ct8), sl8⟩) (c8 : PySem.W.codeIn K cd8 "all_pairs" = true) (k8 : PySem.W.keepIn K (.ref f8) = true)
    {f9 T9 : Addr} {tc9 : Value} {td9 : Option Addr} {its9 : Array Value} {tn9 : Nat} {tsl9 : Array (Option Value)} {od9 an9 : Option Addr} {sl9 : Array (Option Value)} {oc9 kV9 dc9 pm9 cd9 ct9 : Value} (a9 : PySem.W.nsIn K mainGlobals "pairs_at" = some (some (.ref f9))) (l9 : K.lookup f9 = some ⟨oc9, od9, .func (PySem.W.fnOf "pairs_at" "pairs_at" (defArgs s_pairs_at) (defBody s_pairs_at) (defScope s_pairs_at) (.ref T9) kV9 dc9 pm9 an9 cd9 ct9), sl9⟩) (c9 : PySem.W.codeIn K cd9 "pairs_at" = true) (k9 : PySem.W.keepIn K (.ref f9) = true) (lt9 : K.lookup T9 = some ⟨tc9, td9, .seq its9 tn9, tsl9⟩) (vt9 : Vals [V.int (0), V.int (0)] its9.toList)
    {f10 T10 : Addr} {tc10 : Value} {td10 : Option Addr} {its10 : Array Value} {tn10 : Nat} {tsl10 : Array (Option Value)} {od10 an10 : Option Addr} {sl10 : Array (Option Value)} {oc10 kV10 dc10 pm10 cd10 ct10 : Value} (a10 : PySem.W.nsIn K mainGlobals "greatest" = some (some (.ref f10))) (l10 : K.lookup f10 = some ⟨oc10, od10, .func (PySem.W.fnOf "greatest" "greatest" (defArgs s_greatest) (defBody s_greatest) (defScope s_greatest) (.ref T10) kV10 dc10 pm10 an10 cd10 ct10), sl10⟩) (c10 : PySem.W.codeIn K cd10 "greatest" = true) (k10 : PySem.W.keepIn K (.ref f10) = true) (lt10 : K.lookup T10 = some ⟨tc10, td10, .seq its10 tn10, tsl10⟩) (vt10 : Vals [V.int (0), V.int (0)] its10.toList)
    {f11 : Addr} {od11 an11 : Option Addr} {sl11 : Array (Option Value)} {oc11 kV11 dc11 pm11 cd11 ct11 : Value} (a11 : PySem.W.nsIn K mainGlobals "levels_by_line" = some (some (.ref f11))) (l11 : K.lookup f11 = some ⟨oc11, od11, .func (PySem.W.fnOf "levels_by_line" "levels_by_line" (defArgs s_levels_by_line) (defBody s_levels_by_line) (defScope s_levels_by_line) .none kV11 dc11 pm11 an11 cd11 ct11), sl11⟩) (c11 : PySem.W.codeIn K cd11 "levels_by_line" = true) (k11 : PySem.W.keepIn K (.ref f11) = true)
    {f12 : Addr} {od12 an12 : Option Addr} {sl12 : Array (Option Value)} {oc12 kV12 dc12 pm12 cd12 ct12 : Value} (a12 : PySem.W.nsIn K mainGlobals "levels_of" = some (some (.ref f12))) (l12 : K.lookup f12 = some ⟨oc12, od12, .func (PySem.W.fnOf "levels_of" "levels_of" (defArgs s_levels_of) (defBody s_levels_of) (defScope s_levels_of) .none kV12 dc12 pm12 an12 cd12 ct12), sl12⟩) (c12 : PySem.W.codeIn K cd12 "levels_of" = true) (k12 : PySem.W.keepIn K (.ref f12) = true)
    {f13 : Addr} {od13 an13 : Option Addr} {sl13 : Array (Option Value)} {oc13 kV13 dc13 pm13 cd13 ct13 : Value} (a13 : PySem.W.nsIn K mainGlobals "leads" = some (some (.ref f13))) (l13 : K.lookup f13 = some ⟨oc13, od13, .func (PySem.W.fnOf "leads" "leads" (defArgs s_leads) (defBody s_leads) (defScope s_leads) .none kV13 dc13 pm13 an13 cd13 ct13), sl13⟩) (c13 : PySem.W.codeIn K cd13 "leads" = true) (k13 : PySem.W.keepIn K (.ref f13) = true)
    {f14 : Addr} {od14 an14 : Option Addr} {sl14 : Array (Option Value)} {oc14 kV14 dc14 pm14 cd14 ct14 : Value} (a14 : PySem.W.nsIn K mainGlobals "chain_through" = some (some (.ref f14))) (l14 : K.lookup f14 = some ⟨oc14, od14, .func (PySem.W.fnOf "chain_through" "chain_through" (defArgs s_chain_through) (defBody s_chain_through) (defScope s_chain_through) .none kV14 dc14 pm14 an14 cd14 ct14), sl14⟩) (c14 : PySem.W.codeIn K cd14 "chain_through" = true) (k14 : PySem.W.keepIn K (.ref f14) = true)
    {f15 T15 : Addr} {tc15 : Value} {td15 : Option Addr} {its15 : Array Value} {tn15 : Nat} {tsl15 : Array (Option Value)} {od15 an15 : Option Addr} {sl15 : Array (Option Value)} {oc15 kV15 dc15 pm15 cd15 ct15 : Value} (a15 : PySem.W.nsIn K mainGlobals "joining" = some (some (.ref f15))) (l15 : K.lookup f15 = some ⟨oc15, od15, .func (PySem.W.fnOf "joining" "joining" (defArgs s_joining) (defBody s_joining) (defScope s_joining) (.ref T15) kV15 dc15 pm15 an15 cd15 ct15), sl15⟩) (c15 : PySem.W.codeIn K cd15 "joining" = true) (k15 : PySem.W.keepIn K (.ref f15) = true) (lt15 : K.lookup T15 = some ⟨tc15, td15, .seq its15 tn15, tsl15⟩) (vt15 : Vals [V.int (0), V.int (0)] its15.toList)
    {f16 : Addr} {od16 an16 : Option Addr} {sl16 : Array (Option Value)} {oc16 kV16 dc16 pm16 cd16 ct16 : Value} (a16 : PySem.W.nsIn K mainGlobals "_law_pen" = some (some (.ref f16))) (l16 : K.lookup f16 = some ⟨oc16, od16, .func (PySem.W.fnOf "_law_pen" "_law_pen" (defArgs s_pen) (defBody s_pen) (defScope s_pen) .none kV16 dc16 pm16 an16 cd16 ct16), sl16⟩) (c16 : PySem.W.codeIn K cd16 "_law_pen" = true) (k16 : PySem.W.keepIn K (.ref f16) = true)
    {f17 : Addr} {od17 an17 : Option Addr} {sl17 : Array (Option Value)} {oc17 kV17 dc17 pm17 cd17 ct17 : Value} (a17 : PySem.W.nsIn K mainGlobals "_law_draw" = some (some (.ref f17))) (l17 : K.lookup f17 = some ⟨oc17, od17, .func (PySem.W.fnOf "_law_draw" "_law_draw" (defArgs s_draw) (defBody s_draw) (defScope s_draw) .none kV17 dc17 pm17 an17 cd17 ct17), sl17⟩) (c17 : PySem.W.codeIn K cd17 "_law_draw" = true) (k17 : PySem.W.keepIn K (.ref f17) = true)
    {f18 : Addr} {od18 an18 : Option Addr} {sl18 : Array (Option Value)} {oc18 kV18 dc18 pm18 cd18 ct18 : Value} (a18 : PySem.W.nsIn K mainGlobals "_law_pick" = some (some (.ref f18))) (l18 : K.lookup f18 = some ⟨oc18, od18, .func (PySem.W.fnOf "_law_pick" "_law_pick" (defArgs s_pick) (defBody s_pick) (defScope s_pick) .none kV18 dc18 pm18 an18 cd18 ct18), sl18⟩) (c18 : PySem.W.codeIn K cd18 "_law_pick" = true) (k18 : PySem.W.keepIn K (.ref f18) = true)
    {f19 : Addr} {od19 an19 : Option Addr} {sl19 : Array (Option Value)} {oc19 kV19 dc19 pm19 cd19 ct19 : Value} (a19 : PySem.W.nsIn K mainGlobals "_law_life" = some (some (.ref f19))) (l19 : K.lookup f19 = some ⟨oc19, od19, .func (PySem.W.fnOf "_law_life" "_law_life" (defArgs s_life) (defBody s_life) (defScope s_life) .none kV19 dc19 pm19 an19 cd19 ct19), sl19⟩) (c19 : PySem.W.codeIn K cd19 "_law_life" = true) (k19 : PySem.W.keepIn K (.ref f19) = true)
    {f20 : Addr} {od20 an20 : Option Addr} {sl20 : Array (Option Value)} {oc20 kV20 dc20 pm20 cd20 ct20 : Value} (a20 : PySem.W.nsIn K mainGlobals "_law_fits" = some (some (.ref f20))) (l20 : K.lookup f20 = some ⟨oc20, od20, .func (PySem.W.fnOf "_law_fits" "_law_fits" (defArgs s_law_fits) (defBody s_law_fits) (defScope s_law_fits) .none kV20 dc20 pm20 an20 cd20 ct20), sl20⟩) (c20 : PySem.W.codeIn K cd20 "_law_fits" = true) (k20 : PySem.W.keepIn K (.ref f20) = true)
    {f21 : Addr} {od21 an21 : Option Addr} {sl21 : Array (Option Value)} {oc21 kV21 dc21 pm21 cd21 ct21 : Value} (a21 : PySem.W.nsIn K mainGlobals "_law_greedy" = some (some (.ref f21))) (l21 : K.lookup f21 = some ⟨oc21, od21, .func (PySem.W.fnOf "_law_greedy" "_law_greedy" (defArgs s_greedy) (defBody s_greedy) (defScope s_greedy) .none kV21 dc21 pm21 an21 cd21 ct21), sl21⟩) (c21 : PySem.W.codeIn K cd21 "_law_greedy" = true) (k21 : PySem.W.keepIn K (.ref f21) = true)
    {f22 : Addr} {od22 an22 : Option Addr} {sl22 : Array (Option Value)} {oc22 kV22 dc22 pm22 cd22 ct22 : Value} (a22 : PySem.W.nsIn K mainGlobals "_law_pairs" = some (some (.ref f22))) (l22 : K.lookup f22 = some ⟨oc22, od22, .func (PySem.W.fnOf "_law_pairs" "_law_pairs" (defArgs s_pairs) (defBody s_pairs) (defScope s_pairs) .none kV22 dc22 pm22 an22 cd22 ct22), sl22⟩) (c22 : PySem.W.codeIn K cd22 "_law_pairs" = true) (k22 : PySem.W.keepIn K (.ref f22) = true)
    {f23 : Addr} {od23 an23 : Option Addr} {sl23 : Array (Option Value)} {oc23 kV23 dc23 pm23 cd23 ct23 : Value} (a23 : PySem.W.nsIn K mainGlobals "_law_missed" = some (some (.ref f23))) (l23 : K.lookup f23 = some ⟨oc23, od23, .func (PySem.W.fnOf "_law_missed" "_law_missed" (defArgs s_law_missed) (defBody s_law_missed) (defScope s_law_missed) .none kV23 dc23 pm23 an23 cd23 ct23), sl23⟩) (c23 : PySem.W.codeIn K cd23 "_law_missed" = true) (k23 : PySem.W.keepIn K (.ref f23) = true)
    {f24 : Addr} {od24 an24 : Option Addr} {sl24 : Array (Option Value)} {oc24 kV24 dc24 pm24 cd24 ct24 : Value} (a24 : PySem.W.nsIn K mainGlobals "law" = some (some (.ref f24))) (l24 : K.lookup f24 = some ⟨oc24, od24, .func (PySem.W.fnOf "law" "law" (defArgs s_law) (defBody s_law) (defScope s_law) .none kV24 dc24 pm24 an24 cd24 ct24), sl24⟩) (c24 : PySem.W.codeIn K cd24 "law" = true) (k24 : PySem.W.keepIn K (.ref f24) = true)
    (z_abs : PySem.W.nsIn K mainGlobals "abs" = some none)
    (z_bool : PySem.W.nsIn K mainGlobals "bool" = some none)
    (z_enumerate : PySem.W.nsIn K mainGlobals "enumerate" = some none)
    (z_int : PySem.W.nsIn K mainGlobals "int" = some none)
    (z_isinstance : PySem.W.nsIn K mainGlobals "isinstance" = some none)
    (z_len : PySem.W.nsIn K mainGlobals "len" = some none)
    (z_list : PySem.W.nsIn K mainGlobals "list" = some none)
    (z_max : PySem.W.nsIn K mainGlobals "max" = some none)
    (z_min : PySem.W.nsIn K mainGlobals "min" = some none)
    (z_range : PySem.W.nsIn K mainGlobals "range" = some none)
    (z_repr : PySem.W.nsIn K mainGlobals "repr" = some none)
    (z_reversed : PySem.W.nsIn K mainGlobals "reversed" = some none)
    (z_sorted : PySem.W.nsIn K mainGlobals "sorted" = some none)
    (z_tuple : PySem.W.nsIn K mainGlobals "tuple" = some none)
    {D_SENDERS : Addr} (m_SENDERS : PySem.W.nsIn K mainGlobals "SENDERS" = some (some (.ref D_SENDERS))) {es_SENDERS : Array DictEntry} {n_SENDERS : Nat} (kl_SENDERS : K.lookup D_SENDERS = some ⟨.type "dict", none, .dict es_SENDERS n_SENDERS, #[]⟩) (kk_SENDERS : PySem.W.KeysLit w.params es_SENDERS.toList) (ks_SENDERS : (D_SENDERS == sysModules) = false) {u0_SENDERS : Tok} (ki0_SENDERS : PySem.W.nsIn K D_SENDERS "port" = some (some (.str "bridge" u0_SENDERS))) {u1_SENDERS : Tok} (ki1_SENDERS : PySem.W.nsIn K D_SENDERS "star" = some (some (.str "bridge" u1_SENDERS))) {u2_SENDERS : Tok} (ki2_SENDERS : PySem.W.nsIn K D_SENDERS "down" = some (some (.str "bridge" u2_SENDERS))) {u3_SENDERS : Tok} (ki3_SENDERS : PySem.W.nsIn K D_SENDERS "aport" = some (some (.str "room" u3_SENDERS))) {u4_SENDERS : Tok} (ki4_SENDERS : PySem.W.nsIn K D_SENDERS "astar" = some (some (.str "room" u4_SENDERS))) {u5_SENDERS : Tok} (ki5_SENDERS : PySem.W.nsIn K D_SENDERS "up" = some (some (.str "room" u5_SENDERS)))
    {cc12 : Addr} (mk12 : cd12 = .ref cc12) (mt12 : h.get? (tabOf K cc12) = some { cls := .none, data := .fields #[] }) (mn12 : K.lookup (tabOf K cc12) = none) (mh12 : PySem.W.codeHdIn K cc12 (tabOf K cc12) = true)
    {cc19 : Addr} (mk19 : cd19 = .ref cc19) (mt19 : h.get? (tabOf K cc19) = some { cls := .none, data := .fields #[] }) (mn19 : K.lookup (tabOf K cc19) = none) (mh19 : PySem.W.codeHdIn K cc19 (tabOf K cc19) = true)
    (me12_19 : tabOf K cc12 ≠ tabOf K cc19) :
    ∃ (fd : FuncData) (cs : List Addr), TabsOk K h cs ∧ (∀ (s : Shared) (v : Value), BindsTo s fd ⟨[v], []⟩ [("_law_script", v)]) ∧ ∀ base : Heap, K.In base → base.Ns mainGlobals mg → (∀ c ∈ cs, LamX.TabB base mg c (tabOf K c)) → GOk l.prog w K mg base CX0 9 fa fd ["_law_script"] (spLaw K cs) := by
  have e := hfa.symm.trans (PySem.W.mg_of X G a24)
  cases e
  have F0 := fun_mk (st := s_is_whole) l0 c0 k0
  have F1 := fun_mk (st := s_sent_from) l1 c1 k1
  have F2 := fun_mk (st := s_missed) l2 c2 k2
  have F3 := fun_mk (st := s_unpaired) l3 c3 k3
  have F4 := fun_mk (st := s_is_pair) l4 c4 k4
  have F5 := fun_mk (st := s_is_number_in) l5 c5 k5
  have F6 := FunD_mk (x := "span") (params := defArgs s_span) (body := defBody s_span) (scope := defScope s_span) (dvs := [V.int (0)]) l6 c6 k6 lt6 vt6 (by simp)
  obtain ⟨ds4_6, v4_6, b4_6⟩ := F6.binds1 (ps := ["bridge", "room", "pair", "lag"]) 4 1 (by simp) (by simp) (fun T kV doc pm an cdv ct us its hu hi => match us, hu, its, hi with | [_, _, _, _], _, [_], _ => ⟨_, rfl, rfl⟩)
  have F7 := fun_mk (st := s_fits) l7 c7 k7
  have F8 := fun_mk (st := s_all_pairs) l8 c8 k8
  have F9 := FunD_mk (x := "pairs_at") (params := defArgs s_pairs_at) (body := defBody s_pairs_at) (scope := defScope s_pairs_at) (dvs := [V.int (0), V.int (0)]) l9 c9 k9 lt9 vt9 (by simp)
  obtain ⟨ds4_9, v4_9, b4_9⟩ := F9.binds1 (ps := ["bridge", "room", "d", "lag"]) 4 2 (by simp) (by simp) (fun T kV doc pm an cdv ct us its hu hi => match us, hu, its, hi with | [_, _, _, _], _, [_, _], _ => ⟨_, rfl, rfl⟩)
  have F10 := FunD_mk (x := "greatest") (params := defArgs s_greatest) (body := defBody s_greatest) (scope := defScope s_greatest) (dvs := [V.int (0), V.int (0)]) l10 c10 k10 lt10 vt10 (by simp)
  obtain ⟨ds5_10, v5_10, b5_10⟩ := F10.binds1 (ps := ["bridge", "room", "pairs", "d", "lag"]) 5 2 (by simp) (by simp) (fun T kV doc pm an cdv ct us its hu hi => match us, hu, its, hi with | [_, _, _, _, _], _, [_, _], _ => ⟨_, rfl, rfl⟩)
  have F11 := fun_mk (st := s_levels_by_line) l11 c11 k11
  have F12 := fun_mk (st := s_levels_of) l12 c12 k12
  have F13 := fun_mk (st := s_leads) l13 c13 k13
  have F14 := fun_mk (st := s_chain_through) l14 c14 k14
  have F15 := FunD_mk (x := "joining") (params := defArgs s_joining) (body := defBody s_joining) (scope := defScope s_joining) (dvs := [V.int (0), V.int (0)]) l15 c15 k15 lt15 vt15 (by simp)
  obtain ⟨ds4_15, v4_15, b4_15⟩ := F15.binds1 (ps := ["bridge", "room", "d", "lag"]) 4 2 (by simp) (by simp) (fun T kV doc pm an cdv ct us its hu hi => match us, hu, its, hi with | [_, _, _, _], _, [_, _], _ => ⟨_, rfl, rfl⟩)
  have F16 := fun_mk (st := s_pen) l16 c16 k16
  have F17 := fun_mk (st := s_draw) l17 c17 k17
  have F18 := fun_mk (st := s_pick) l18 c18 k18
  have F19 := fun_mk (st := s_life) l19 c19 k19
  have F20 := fun_mk (st := s_law_fits) l20 c20 k20
  have F21 := fun_mk (st := s_greedy) l21 c21 k21
  have F22 := fun_mk (st := s_pairs) l22 c22 k22
  have F23 := fun_mk (st := s_law_missed) l23 c23 k23
  have F24 := fun_mk (st := s_law) l24 c24 k24
  let T : Txt w K mg := {
    a_is_whole := f0, d_is_whole := _, F_is_whole := F0, b_is_whole := F0.binds (ps := ["thing"]) (fun _ _ _ _ _ _ us hl => match us, hl with | [_], _ => rfl), g_is_whole := PySem.W.mg_of X G a0,
    a_sent_from := f1, d_sent_from := _, F_sent_from := F1, b_sent_from := F1.binds (ps := ["line"]) (fun _ _ _ _ _ _ us hl => match us, hl with | [_], _ => rfl), g_sent_from := PySem.W.mg_of X G a1,
    a_missed := f2, d_missed := _, F_missed := F2, b_missed := F2.binds (ps := ["bridge", "room", "joining"]) (fun _ _ _ _ _ _ us hl => match us, hl with | [_, _, _], _ => rfl), g_missed := PySem.W.mg_of X G a2,
    a_unpaired := f3, d_unpaired := _, F_unpaired := F3, b_unpaired := F3.binds (ps := ["bridge", "room", "joining"]) (fun _ _ _ _ _ _ us hl => match us, hl with | [_, _, _], _ => rfl), g_unpaired := PySem.W.mg_of X G a3,
    a_is_pair := f4, d_is_pair := _, F_is_pair := F4, b_is_pair := F4.binds (ps := ["bridge", "room", "thing"]) (fun _ _ _ _ _ _ us hl => match us, hl with | [_, _, _], _ => rfl), g_is_pair := PySem.W.mg_of X G a4,
    a_is_number_in := f5, d_is_number_in := _, F_is_number_in := F5, b_is_number_in := F5.binds (ps := ["log", "thing"]) (fun _ _ _ _ _ _ us hl => match us, hl with | [_, _], _ => rfl), g_is_number_in := PySem.W.mg_of X G a5,
    a_span := f6, d_span := _, F_span := F6, ds4_span := ds4_6, v4_span := v4_6, b4_span := b4_6, g_span := PySem.W.mg_of X G a6,
    a_fits := f7, d_fits := _, F_fits := F7, b_fits := F7.binds (ps := ["bridge", "room", "pair", "d", "lag"]) (fun _ _ _ _ _ _ us hl => match us, hl with | [_, _, _, _, _], _ => rfl), g_fits := PySem.W.mg_of X G a7,
    a_all_pairs := f8, d_all_pairs := _, F_all_pairs := F8, b_all_pairs := F8.binds (ps := ["bridge", "room"]) (fun _ _ _ _ _ _ us hl => match us, hl with | [_, _], _ => rfl), g_all_pairs := PySem.W.mg_of X G a8,
    a_pairs_at := f9, d_pairs_at := _, F_pairs_at := F9, ds4_pairs_at := ds4_9, v4_pairs_at := v4_9, b4_pairs_at := b4_9, g_pairs_at := PySem.W.mg_of X G a9,
    a_greatest := f10, d_greatest := _, F_greatest := F10, ds5_greatest := ds5_10, v5_greatest := v5_10, b5_greatest := b5_10, g_greatest := PySem.W.mg_of X G a10,
    a_levels_by_line := f11, d_levels_by_line := _, F_levels_by_line := F11, b_levels_by_line := F11.binds (ps := ["bridge", "pairs"]) (fun _ _ _ _ _ _ us hl => match us, hl with | [_, _], _ => rfl), g_levels_by_line := PySem.W.mg_of X G a11,
    a_levels_of := f12, d_levels_of := _, F_levels_of := F12, b_levels_of := F12.binds (ps := ["pairs"]) (fun _ _ _ _ _ _ us hl => match us, hl with | [_], _ => rfl), g_levels_of := PySem.W.mg_of X G a12,
    a_leads := f13, d_leads := _, F_leads := F13, b_leads := F13.binds (ps := ["one", "other"]) (fun _ _ _ _ _ _ us hl => match us, hl with | [_, _], _ => rfl), g_leads := PySem.W.mg_of X G a13,
    a_chain_through := f14, d_chain_through := _, F_chain_through := F14, b_chain_through := F14.binds (ps := ["levels"]) (fun _ _ _ _ _ _ us hl => match us, hl with | [_], _ => rfl), g_chain_through := PySem.W.mg_of X G a14,
    a_joining := f15, d_joining := _, F_joining := F15, ds4_joining := ds4_15, v4_joining := v4_15, b4_joining := b4_15, g_joining := PySem.W.mg_of X G a15,
    a_pen := f16, d_pen := _, F_pen := F16, b_pen := F16.binds (ps := ["_law_script"]) (fun _ _ _ _ _ _ us hl => match us, hl with | [_], _ => rfl), g_pen := PySem.W.mg_of X G a16,
    a_draw := f17, d_draw := _, F_draw := F17, b_draw := F17.binds (ps := ["_law_pen_here", "_law_many"]) (fun _ _ _ _ _ _ us hl => match us, hl with | [_, _], _ => rfl), g_draw := PySem.W.mg_of X G a17,
    a_pick := f18, d_pick := _, F_pick := F18, b_pick := F18.binds (ps := ["_law_pen_here", "_law_some"]) (fun _ _ _ _ _ _ us hl => match us, hl with | [_, _], _ => rfl), g_pick := PySem.W.mg_of X G a18,
    a_life := f19, d_life := _, F_life := F19, b_life := F19.binds (ps := ["_law_pen_here", "_law_most"]) (fun _ _ _ _ _ _ us hl => match us, hl with | [_, _], _ => rfl), g_life := PySem.W.mg_of X G a19,
    a_law_fits := f20, d_law_fits := _, F_law_fits := F20, b_law_fits := F20.binds (ps := ["_law_above", "_law_below", "_law_b", "_law_r", "_law_gap", "_law_late"]) (fun _ _ _ _ _ _ us hl => match us, hl with | [_, _, _, _, _, _], _ => rfl), g_law_fits := PySem.W.mg_of X G a20,
    a_greedy := f21, d_greedy := _, F_greedy := F21, b_greedy := F21.binds (ps := ["_law_pen_here", "_law_above", "_law_below", "_law_gap", "_law_late"]) (fun _ _ _ _ _ _ us hl => match us, hl with | [_, _, _, _, _], _ => rfl), g_greedy := PySem.W.mg_of X G a21,
    a_pairs := f22, d_pairs := _, F_pairs := F22, b_pairs := F22.binds (ps := ["_law_pen_here", "_law_above", "_law_below", "_law_gap", "_law_late"]) (fun _ _ _ _ _ _ us hl => match us, hl with | [_, _, _, _, _], _ => rfl), g_pairs := PySem.W.mg_of X G a22,
    a_law_missed := f23, d_law_missed := _, F_law_missed := F23, b_law_missed := F23.binds (ps := ["_law_above", "_law_below", "_law_pairs_here"]) (fun _ _ _ _ _ _ us hl => match us, hl with | [_, _, _], _ => rfl), g_law_missed := PySem.W.mg_of X G a23,
    a_law := fa, d_law := _, F_law := F24, b_law := F24.binds (ps := ["_law_script"]) (fun _ _ _ _ _ _ us hl => match us, hl with | [_], _ => rfl), g_law := PySem.W.mg_of X G a24,
    cc_levels_of := cc12, cd_levels_of := mk12,
    cc_life := cc19, cd_life := mk19,
    ne_levels_of_life := me12_19,
    kb0_missed := ⟨fun s us ws _ hl => (match us, ws, hl with | [], [_, _, _], _ => .of_eq rfl), fun r1 r2 => by (cases r1 with | nil => (cases r2 with | nil => exact .nil | cons q0 r2 => (cases r2 with | nil => exact .nil | cons q1 r2 => (cases r2 with | nil => exact .nil | cons q2 r2 => (cases r2 with | nil => exact .cons q2 (.cons q1 (.cons q0 (.nil))) | cons _ _ => exact .nil)))) | cons _ _ => exact .nil)⟩,
    z_abs := PySem.W.mg_none_of X G z_abs,
    z_bool := PySem.W.mg_none_of X G z_bool,
    z_enumerate := PySem.W.mg_none_of X G z_enumerate,
    z_int := PySem.W.mg_none_of X G z_int,
    z_isinstance := PySem.W.mg_none_of X G z_isinstance,
    z_len := PySem.W.mg_none_of X G z_len,
    z_list := PySem.W.mg_none_of X G z_list,
    z_max := PySem.W.mg_none_of X G z_max,
    z_min := PySem.W.mg_none_of X G z_min,
    z_range := PySem.W.mg_none_of X G z_range,
    z_repr := PySem.W.mg_none_of X G z_repr,
    z_reversed := PySem.W.mg_none_of X G z_reversed,
    z_sorted := PySem.W.mg_none_of X G z_sorted,
    z_tuple := PySem.W.mg_none_of X G z_tuple,
    D_SENDERS := D_SENDERS, c_SENDERS := PySem.W.mg_of X G m_SENDERS, es_SENDERS := es_SENDERS, n_SENDERS := n_SENDERS, kD_SENDERS := ⟨kl_SENDERS, kk_SENDERS, ks_SENDERS⟩, ki_SENDERS := fun p hp => (List.mem_cons.mp hp).elim (fun e => e ▸ ⟨_, ki0_SENDERS, ⟨_, rfl⟩⟩) (fun hp => (List.mem_cons.mp hp).elim (fun e => e ▸ ⟨_, ki1_SENDERS, ⟨_, rfl⟩⟩) (fun hp => (List.mem_cons.mp hp).elim (fun e => e ▸ ⟨_, ki2_SENDERS, ⟨_, rfl⟩⟩) (fun hp => (List.mem_cons.mp hp).elim (fun e => e ▸ ⟨_, ki3_SENDERS, ⟨_, rfl⟩⟩) (fun hp => (List.mem_cons.mp hp).elim (fun e => e ▸ ⟨_, ki4_SENDERS, ⟨_, rfl⟩⟩) (fun hp => (List.mem_cons.mp hp).elim (fun e => e ▸ ⟨_, ki5_SENDERS, ⟨_, rfl⟩⟩) (fun hp => nomatch hp)))))), kd_SENDERS := fun p hp => (List.mem_cons.mp hp).elim (fun e => e ▸ ⟨es_SENDERS, n_SENDERS, _, kl_SENDERS, kk_SENDERS, ki0_SENDERS, ⟨_, rfl⟩⟩) (fun hp => (List.mem_cons.mp hp).elim (fun e => e ▸ ⟨es_SENDERS, n_SENDERS, _, kl_SENDERS, kk_SENDERS, ki1_SENDERS, ⟨_, rfl⟩⟩) (fun hp => (List.mem_cons.mp hp).elim (fun e => e ▸ ⟨es_SENDERS, n_SENDERS, _, kl_SENDERS, kk_SENDERS, ki2_SENDERS, ⟨_, rfl⟩⟩) (fun hp => (List.mem_cons.mp hp).elim (fun e => e ▸ ⟨es_SENDERS, n_SENDERS, _, kl_SENDERS, kk_SENDERS, ki3_SENDERS, ⟨_, rfl⟩⟩) (fun hp => (List.mem_cons.mp hp).elim (fun e => e ▸ ⟨es_SENDERS, n_SENDERS, _, kl_SENDERS, kk_SENDERS, ki4_SENDERS, ⟨_, rfl⟩⟩) (fun hp => (List.mem_cons.mp hp).elim (fun e => e ▸ ⟨es_SENDERS, n_SENDERS, _, kl_SENDERS, kk_SENDERS, ki5_SENDERS, ⟨_, rfl⟩⟩) (fun hp => nomatch hp)))))) }
  exact ⟨PySem.W.fnOf "law" "law" (defArgs s_law) (defBody s_law) (defScope s_law) .none kV24 dc24 pm24 an24 cd24 ct24, [cc12, cc19], ⟨fun c hc => (List.mem_cons.mp hc).elim (fun e => e ▸ mt12) (fun hc => (List.mem_cons.mp hc).elim (fun e => e ▸ mt19) (fun hc => nomatch hc)), fun c hc => (List.mem_cons.mp hc).elim (fun e => e ▸ mn12) (fun hc => (List.mem_cons.mp hc).elim (fun e => e ▸ mn19) (fun hc => nomatch hc)), fun c hc => (List.mem_cons.mp hc).elim (fun e => e ▸ PySem.W.codeHd_of_K X mh12) (fun hc => (List.mem_cons.mp hc).elim (fun e => e ▸ PySem.W.codeHd_of_K X mh19) (fun hc => nomatch hc))⟩, fun s v => .of_eq rfl, fun base _ _ TB => ok_law T TB⟩
end RO
open PySem PySem.W PyProof.Rows in
set_option maxRecDepth 100000 in
set_option maxHeartbeats 0 in
theorem PySem.Challenge.cw_ringorders_k43_rows_missed_holds : PySem.Challenge.rw_ringorders_k43_rows_missed.Holds := by
  w_on; o_law; k_head; (case hw => w_witness2)
  k_fill
  refine RO.walk_GT (l := PySem.Challenge.rw_ringorders_k43_rows_missed) (n := 63) (k := 9) (x := "_law_script") (sp := RO.spLaw) rfl (by decide) rfl ⟨rfl, by decide, by decide⟩ (fun w h Y => PySem.W.km_in_of Y) ?F RO.law_in
  case F =>
    intro w mg fa h YK KX G hmg
    refine' RO.all_mk KX G hmg ?a0 ?l0 ?c0 ?k0 ?a1 ?l1 ?c1 ?k1 ?a2 ?l2 ?c2 ?k2 ?a3 ?l3 ?c3 ?k3 ?a4 ?l4 ?c4 ?k4 ?a5 ?l5 ?c5 ?k5 ?a6 ?l6 ?c6 ?k6 ?lt6 ?vt6 ?a7 ?l7 ?c7 ?k7 ?a8 ?l8 ?c8 ?k8 ?a9 ?l9 ?c9 ?k9 ?lt9 ?vt9 ?a10 ?l10 ?c10 ?k10 ?lt10 ?vt10 ?a11 ?l11 ?c11 ?k11 ?a12 ?l12 ?c12 ?k12 ?a13 ?l13 ?c13 ?k13 ?a14 ?l14 ?c14 ?k14 ?a15 ?l15 ?c15 ?k15 ?lt15 ?vt15 ?a16 ?l16 ?c16 ?k16 ?a17 ?l17 ?c17 ?k17 ?a18 ?l18 ?c18 ?k18 ?a19 ?l19 ?c19 ?k19 ?a20 ?l20 ?c20 ?k20 ?a21 ?l21 ?c21 ?k21 ?a22 ?l22 ?c22 ?k22 ?a23 ?l23 ?c23 ?k23 ?a24 ?l24 ?c24 ?k24 ?z_abs ?z_bool ?z_enumerate ?z_int ?z_isinstance ?z_len ?z_list ?z_max ?z_min ?z_range ?z_repr ?z_reversed ?z_sorted ?z_tuple ?m_SENDERS ?kl_SENDERS ?kk_SENDERS ?ks_SENDERS ?ki0_SENDERS ?ki1_SENDERS ?ki2_SENDERS ?ki3_SENDERS ?ki4_SENDERS ?ki5_SENDERS ?mk12 ?mt12 ?mn12 ?mh12 ?mk19 ?mt19 ?mn19 ?mh19 ?me12_19
    (case a0 => k_is)
    (case l0 => k_is)
    (case c0 => k_is)
    (case k0 => k_is)
    (case a1 => k_is)
    (case l1 => k_is)
    (case c1 => k_is)
    (case k1 => k_is)
    (case a2 => k_is)
    (case l2 => k_is)
    (case c2 => k_is)
    (case k2 => k_is)
    (case a3 => k_is)
    (case l3 => k_is)
    (case c3 => k_is)
    (case k3 => k_is)
    (case a4 => k_is)
    (case l4 => k_is)
    (case c4 => k_is)
    (case k4 => k_is)
    (case a5 => k_is)
    (case l5 => k_is)
    (case c5 => k_is)
    (case k5 => k_is)
    (case a6 => k_is)
    (case l6 => k_is)
    (case c6 => k_is)
    (case k6 => k_is)
    (case lt6 => k_is)
    (case vt6 => exact .cons ⟨_, rfl⟩ (.nil))
    (case a7 => k_is)
    (case l7 => k_is)
    (case c7 => k_is)
    (case k7 => k_is)
    (case a8 => k_is)
    (case l8 => k_is)
    (case c8 => k_is)
    (case k8 => k_is)
    (case a9 => k_is)
    (case l9 => k_is)
    (case c9 => k_is)
    (case k9 => k_is)
    (case lt9 => k_is)
    (case vt9 => exact .cons ⟨_, rfl⟩ (.cons ⟨_, rfl⟩ (.nil)))
    (case a10 => k_is)
    (case l10 => k_is)
    (case c10 => k_is)
    (case k10 => k_is)
    (case lt10 => k_is)
    (case vt10 => exact .cons ⟨_, rfl⟩ (.cons ⟨_, rfl⟩ (.nil)))
    (case a11 => k_is)
    (case l11 => k_is)
    (case c11 => k_is)
    (case k11 => k_is)
    (case a12 => k_is)
    (case l12 => k_is)
    (case c12 => k_is)
    (case k12 => k_is)
    (case a13 => k_is)
    (case l13 => k_is)
    (case c13 => k_is)
    (case k13 => k_is)
    (case a14 => k_is)
    (case l14 => k_is)
    (case c14 => k_is)
    (case k14 => k_is)
    (case a15 => k_is)
    (case l15 => k_is)
    (case c15 => k_is)
    (case k15 => k_is)
    (case lt15 => k_is)
    (case vt15 => exact .cons ⟨_, rfl⟩ (.cons ⟨_, rfl⟩ (.nil)))
    (case a16 => k_is)
    (case l16 => k_is)
    (case c16 => k_is)
    (case k16 => k_is)
    (case a17 => k_is)
    (case l17 => k_is)
    (case c17 => k_is)
    (case k17 => k_is)
    (case a18 => k_is)
    (case l18 => k_is)
    (case c18 => k_is)
    (case k18 => k_is)
    (case a19 => k_is)
    (case l19 => k_is)
    (case c19 => k_is)
    (case k19 => k_is)
    (case a20 => k_is)
    (case l20 => k_is)
    (case c20 => k_is)
    (case k20 => k_is)
    (case a21 => k_is)
    (case l21 => k_is)
    (case c21 => k_is)
    (case k21 => k_is)
    (case a22 => k_is)
    (case l22 => k_is)
    (case c22 => k_is)
    (case k22 => k_is)
    (case a23 => k_is)
    (case l23 => k_is)
    (case c23 => k_is)
    (case k23 => k_is)
    (case a24 => k_is)
    (case l24 => k_is)
    (case c24 => k_is)
    (case k24 => k_is)
    (case z_abs => k_is)
    (case z_bool => k_is)
    (case z_enumerate => k_is)
    (case z_int => k_is)
    (case z_isinstance => k_is)
    (case z_len => k_is)
    (case z_list => k_is)
    (case z_max => k_is)
    (case z_min => k_is)
    (case z_range => k_is)
    (case z_repr => k_is)
    (case z_reversed => k_is)
    (case z_sorted => k_is)
    (case z_tuple => k_is)
    (case m_SENDERS => k_is)
    (case kl_SENDERS => k_is)
    (case kk_SENDERS => k_keys)
    (case ks_SENDERS => (first | rfl | decide +kernel))
    (case ki0_SENDERS => k_is)
    (case ki1_SENDERS => k_is)
    (case ki2_SENDERS => k_is)
    (case ki3_SENDERS => k_is)
    (case ki4_SENDERS => k_is)
    (case ki5_SENDERS => k_is)
    (case mk12 => exact rfl)
    (case mt12 => exact PySem.W.km_tabs_of YK _ (List.mem_of_elem_eq_true (by kernel_rfl)))
    (case mn12 => exact Option.isNone_iff_eq_none.mp (by kernel_rfl))
    (case mh12 => kernel_rfl)
    (case mk19 => exact rfl)
    (case mt19 => exact PySem.W.km_tabs_of YK _ (List.mem_of_elem_eq_true (by kernel_rfl)))
    (case mn19 => exact Option.isNone_iff_eq_none.mp (by kernel_rfl))
    (case mh19 => kernel_rfl)
    (case me12_19 => exact ne_of_beq_false (by kernel_rfl))
