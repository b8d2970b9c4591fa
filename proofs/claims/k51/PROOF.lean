import PyProof.Rows.All
import Wide.All
import OpenK.AllK
import Wide.FinOn
import HandS.ForMost
import HandS.IsInst
import HandS.Rev
import PyProof.ReprRoads
import PyProof.CallFns
import HandS.EndBits
import HandS.Zip0
import HandS.Walk
import PyProof.Draws
import HandS.More
import HandS.WrittenGet
import HandS.Defaults
import HandS.Wide
import HandS.Conv
import HandS.TupAny
import HandS.Codes
import PyProof.ReprBulk
import HandS.Style
import HandS.NoneIn
import HandS.SortInts
import HandS.RaiseMore
import HandS.Dict
import PyProof.Rows.ReprOcc
import HandS.SetFor
import HandS.SetBool
import HandS.Strs
import HandS.Flow
import HandS.Gcd
import HandS.Zip
import KE.KDictZip
import HandS.TupMul
import KE.DataMinMax
import HandS.SortKw
import HandS.FStr
import KE.KxField
import KE.KDictCopyH
import KE.KDictPairs
import PySem.Challenge.RW_ringorders_k51_tables_known
set_option Elab.async false
set_option linter.all false
set_option maxRecDepth 100000
set_option maxHeartbeats 4000000
/-! Ringorders, the ground: promises of defs around which no repr runs, calls by keywords alone, repr of data. -/
namespace RO
open PySem PySem.Spec PyProof.Rows L2

/-- what a def keeps where nothing guards a repr around it -/
structure GOk (P : Program) (w : World) (K : PySem.W.Frag) (mg : Str → Option Value) (base : Heap) (CX : CXT) (k : Nat) (f : Addr) (fd : FuncData) (ps : List Str) (sp : Sp) : Prop where
  many : ∀ vs H Q E, sp vs H Q E → vs.length = ps.length
  runs : ∀ (A : Around) (out : List Env) (s : Shared) (H : Hp) (as : Args) (us : List Value) (vs : List V) (Q : VK) (E : XK),
    Room k A → A.guards = some [] → Env0 P w K mg base A out s H → BindsTo s fd as (ps.zip us) → Vals vs us → sp vs H Q E →
      codeAny (model P w) A (.call (.ref f) as) (CR CX out P w H s Q E) s

section
variable {P : Program} {w : World} {K : PySem.W.Frag} {mg : Str → Option Value} {base : Heap}

theorem GOk.of {CX : CXT} {k : Nat} {f : Addr} {fd : FuncData} {ps : List Str} {sp : Sp} (F : FnOk P w K mg base CX k f fd ps sp) : GOk P w K mg base CX k f fd ps sp :=
  { many := F.len
    runs := fun A out s H as us vs Q E hr _ => F.run A out s H as us vs Q E hr }
theorem GOk.up {CX : CXT} {j k : Nat} {f : Addr} {fd : FuncData} {ps : List Str} {sp : Sp} (F : GOk P w K mg base CX j f fd ps sp) (h : j ≤ k) : GOk P w K mg base CX k f fd ps sp :=
  { many := F.many
    runs := fun A out s H as us vs Q E hr => F.runs A out s H as us vs Q E (Room.mono hr h) }

/-- a def by its body, nothing guarding a repr -/
theorem GOk.body {x qual : Str} {st : Stmt} {f : Addr} {fd : FuncData} {N ps : List Str} {k : Nat} {sp : Sp} (F : Fun K x qual st f fd) (S : FnScope N ps (defScope st))
    (many : ∀ vs H Q E, sp vs H Q E → vs.length = ps.length)
    (hb : ∀ (cdv : Value) (A : Around) (out : List Env) (s : Shared) (H : Hp) (vs : List V) (Q : VK) (E : XK),
      Room k (A.deeper (envOfC qual (defScope st) s.heap.objs.size f cdv)) → A.guards = some [] → sp vs H Q E →
        ∃ t, PSs (cxOf CX0 P w K mg base N qual (defScope st) f cdv A out s H E).nox (defBody st) t ∧ t { nx := fun _ H' => Q .non H', rt := Q } (start N vs) H) :
    GOk P w K mg base CX0 (k + 1) f fd ps sp := by
  obtain ⟨oc, od, kV, doc, pm, an, cdv, ct, osl, e, lk, hcd⟩ := F.ex
  subst e
  constructor
  · exact many
  · intro A out s H as us vs Q E hr hG e0 hbd r hsp
    have h0 := many _ _ _ _ hsp
    have old : ∀ b o, base.get? b = some o → s.heap.get? b = some o := fun b o z => (e0.bs b o z).1
    have hK : K.In s.heap := e0.mod.kin.keeps old
    have hL : s.heap.NoLimit := e0.mod.nolimit.keeps old
    have kinds : ∀ y ∈ ps.zip us, (defScope st).names.lookup y.1 = some .local ∨
        ((defScope st).names.lookup y.1 = some .cell ∧ ((cellsFrom (s.heap.objs.size + 1) (defScope st).names []).lookup y.1).isSome = true) := by
      intro y hy
      cases S.par y.1 (List.of_mem_zip (show (y.1, y.2) ∈ ps.zip us from hy)).1 with
      | inl z => exact Or.inl z
      | inr z => exact Or.inr ⟨z, PySem.W.cellsFrom_some _ _ _ (Or.inl z)⟩
    apply codeAny_call_function hr.depth (hK _ _ lk) rfl S.co S.gen rfl (PySem.W.codeRec_of hK hcd)
    apply hbd
    apply wpAny_newFunctionEnv_cells S.kind kinds
    intro env he s1 x
    subst he
    refine ⟨hL.keeps x.toInCall.keep, codeAny_func ?_⟩
    obtain ⟨t, ht, hq⟩ := hb cdv A out s H vs Q E (hr.deeper _) hG hsp
    have J0 := inv_start (E := E) S hr.hd e0 h0 r x (CX := CX0)
    have done : ∀ {σ' : L2.St} {H' : Hp} {v : V} {u : Value} {s' : Shared}, Inv (cxOf CX0 P w K mg base N qual (defScope st) f cdv A out s H E) [] σ' H' s' → RelV v u → Q v H' → CE out P w H s Q u s' :=
      fun {σ' H' v u s'} J rv q => ⟨v, H', J.os, J.bare, J.base, J.hok, rv, q⟩
    apply wpAny_mono (ht.nox.run [] s1 (start N vs) H _ J0 hq)
    · intro fl s' hs
      match fl, hs with
      | .ret u, ⟨v, σ', H', J, rv, q⟩ => exact done J rv q
      | .next, ⟨σ', H', J, q⟩ => exact done (v := V.non) (u := Value.none) J rfl q
      | .brk, ⟨_, _, _, q⟩ => exact q.elim
      | .cont, ⟨_, _, _, q⟩ => exact q.elim
    · exact fun _ _ hs => hs
end

section
variable {X : Cx} {CX : CXT} {k : Nat} {f C : Addr} {fd : FuncData} {ps ks : List Str} {sp : Sp} {dvs : List V} {ds : List Value} {E : XK} {x m : Str} {p pos : Pos} {e o : Expr} {es : List Expr} {kws : List Keyword} {te ta : TE} {t tk : TA}

theorem GOk.goes {pins : List (Addr × Obj)} {σ : L2.St} {H : Hp} {s : Shared} {Q : VK} {as : Args} {us : List Value} {vs : List V} (F : GOk X.prog X.w X.K X.mg X.base CX k f fd ps sp) (hr : Room k X.A) (hG : X.A.guards = some []) (hx : Passes CX X E)
    (hb : BindsTo s fd as (ps.zip us)) (I : Inv X pins σ H s) (r : Vals vs us) (h : sp vs H Q E) : codeAny (model X.prog X.w) X.A (.call (.ref f) as) (fun r s' => match r with | .ok (.ret u) => EP X pins σ Q u s' | .ok _ => False | .error e => X.xe e s') s := by
  apply codeAny_mono (F.runs X.A X.stack s H as us vs Q E hr hG I.env0 hb r h)
  intro r s' hq
  match r, hq with
  | .error e, hq => exact hx pins σ H s e s' I hq
  | .ok (.ret u), hq => exact I.after hq
  | .ok .next, hq => exact hq.elim
  | .ok .brk, hq => exact hq.elim
  | .ok .cont, hq => exact hq.elim

/-- f(e, ..) where f keeps its promise if no repr is guarded -/
theorem pe_callG (F : GOk X.prog X.w X.K X.mg X.base CX k f fd ps sp) (hr : Room k X.A) (hG : X.A.guards = some []) (hg : Gl X x) (hm : X.mg x = some (.ref f)) (hk : PySem.W.keepIn X.K (.ref f) = true) (hb : Binds X.K fd ps ds) (hd : Vals dvs ds) (hx : Passes CX X E)
    (ha : PA X (e :: es) t) (hdb : (x == ("__debug__" : Str)) = false := by decide) (he : starEach (e :: es) X.env = (false, eval e X.env) :: starEach es X.env := by rfl)
    (hpl : (backTo pos (starEach es X.env)).any (·.1) = false := by rfl) : PE X (.Call (.Name x p) (e :: es) [] pos) (tCall sp dvs E t) := by
  constructor
  intro pins s σ H Q I h
  apply wpAny_Call_Name_kw
  apply ld_glob I hg hm _ hdb
  apply PySem.W.callWith_K (h₀ := X.base) I.ok.mod.kin hk _ he hpl
  apply thn (ha.run pos pins s σ H _ I h)
  rintro us s1 ⟨vs, H1, I1, r, q⟩
  refine ⟨I1.kIn, ?_⟩
  have r2 : Vals (vs ++ dvs) (us ++ ds) := r.append hd
  have hl : (us ++ ds).length = ps.length := r2.length.symm.trans (F.many _ _ _ _ q)
  show wpAny _ _ (call (.ref f) us) _ _ s1
  exact wpAny_call (codeAny_mono (F.goes hr hG hx (hb s1 us I1.kIn hl) I1 r2 q) fun r s' hq => by
    match r, hq with
    | .error e, hq => exact hq
    | .ok (.ret u), hq => exact hq)

/-- f(k = v, ..), nothing by place -/
theorem pe_callK0 {g : List Value → List Value → List Value} {gV : List V → List V → List V} (F : FnOk X.prog X.w X.K X.mg X.base CX k f fd ps sp) (hr : Room k X.A) (hg : Gl X x) (hm : X.mg x = some (.ref f)) (hk : PySem.W.keepIn X.K (.ref f) = true)
    (hb : KBinds X.K fd ps ks g gV) (hx : Passes CX X E) (hkw : PK X kws tk) (hall : (backToKw pos (keywordEach kws X.env)).all (·.1.isSome) = true := by rfl) (hks : (backToKw pos (keywordEach kws X.env)).filterMap (·.1) = ks := by rfl)
    (hdb : (x == ("__debug__" : Str)) = false := by decide)
    (hpl : ((backTo pos (starEach [] X.env)).any (·.1) || (backToKw pos (keywordEach kws X.env)).any (·.1.isNone)) = false := by rfl) :
    PE X (.Call (.Name x p) [] kws pos) (tCallK sp gV E tNil tk) := by
  constructor
  intro pins s σ H Q I h
  apply wpAny_Call_Name_kw
  apply ld_glob I hg hm _ hdb
  apply PySem.W.callWith_KW0 (h₀ := X.base) I.ok.mod.kin hk hall _ hpl
  apply thn (hkw.run pos pins s σ H _ I h)
  rintro ws s1 ⟨zs, H1, I1, rz, q⟩
  refine ⟨I1.kIn, ?_⟩
  rw [hks]
  exact run_fnk (us := []) F hr hb hx I1 .nil rz q

/-! ### repr -/
/-- repr of data -/
def rRepr (K : PySem.W.Frag) : List V → Hp → VK → Prop := fun xs H Q => ∃ v d, xs = [v] ∧ Dp K H v d ∧ PyData.showable d = true ∧ d.hasDict = false ∧ d.depth ≤ 40 ∧ d.shown.length ≤ sizeLine ∧ Q (.str d.shown) H
theorem call_repr (hG : X.A.guards = some []) (hu : X.A.units + 64 < cLine) : CallR X (.builtin "repr") (rRepr X.K) := by
  intro pins s σ H xs us Q I r h
  obtain ⟨v, d, rfl, hd, hs, hn, h40, hz, q⟩ := h
  obtain ⟨u, rfl, ru⟩ := vals1 r
  have fin : ∀ (h' : Heap) (tk : Nat) (u : Tok), (∀ b o, s.heap.get? b = some o → h'.get? b = some o) → EP X pins σ Q (.str d.shown u) { s with heap := h', toks := tk } :=
    fun h' tk u hk => ⟨.str d.shown, H, I.un (Un.kept hk) (I.hok.kept hk), ⟨u, rfl⟩, q⟩
  obtain ⟨as, rd⟩ := Dp.reads I d v u hd ru
  cases hd with
  | non =>
    cases ru
    exact P.repr_of_none (fin s.heap _ _ fun _ _ z => z)
  | bl b =>
    cases ru
    refine P.repr_of_bool ?_
    have z := fin s.heap (s.toks + 1) s.toks fun _ _ z => z
    cases b <;> exact z
  | int i =>
    obtain ⟨t, rfl⟩ := ru
    refine P.repr_of_int ?_ ?_
    · simpa [PyData.showable] using hs
    · have z := fin s.heap (s.toks + 1) s.toks fun _ _ z => z
      simpa [PyData.shown] using z
  | str x =>
    obtain ⟨t, rfl⟩ := ru
    have z := fin s.heap (s.toks + 1) s.toks fun _ _ z => z
    simp only [PyData.shown_str] at z hz
    exact P.repr_of_str z hz
  | lst h1 h2 =>
    cases ru
    exact repr_of_reads' rd hs (PyData.noDict_hsm hn) hG (by omega) (fun _ _ z => z) (fun h' u tk hk => fin h' tk u hk) hz
  | tup h1 h2 =>
    cases ru
    exact repr_of_reads' rd hs (PyData.noDict_hsm hn) hG (by omega) (fun _ _ z => z) (fun h' u tk hk => fin h' tk u hk) hz
end
end RO

namespace RO
open PySem PySem.Spec PyProof.Rows L2

/-- the abstract heap at the law's entry: the script alone, locked, where the text itself doesn't hold it -/
def scriptH (K : PySem.W.Frag) (a : Addr) (o : Obj) (ns : List Int) : Hp := fun b => if b = a ∧ K.lookup a = none then some (.frz o (.lst (ns.map V.int))) else none

/-- the law's def is called as TURN's statement calls it -/
theorem law_runs {P : Program} {w : World} {K : PySem.W.Frag} {mg mb : Str → Option Value} {k : Nat} {fa a : Addr} {fd : FuncData} {x : Str} {sp : Sp} {s1 : Shared} {vs : List Value} {ns : List Int}
    (hK : K.In s1.heap) (hm : s1.heap.Ns mainGlobals mg) (hb : s1.heap.Ns builtinsNs mb) (hbb : ∀ y : Str, y ≠ "__name__" → mb y = bootBuiltins y) (hL : s1.heap.NoLimit) (hgn : s1.gens = #[])
    (ha : s1.heap.get? a = some { cls := .type "list", data := .seq vs.toArray }) (hi : IntsAre vs ns) (hn : ns.length ≤ sizeLine) (hr : Room k callerA)
    (F : ∀ base : Heap, K.In base → base.Ns mainGlobals mg → GOk P w K mg base CX0 k fa fd [x] sp) (hbd : ∀ (s : Shared) (u : Value), BindsTo s fd ⟨[u], []⟩ [(x, u)])
    (hsp : ∀ H : Hp, Only H → SqL K H a (ns.map V.int) → sp [.ref a] H (fun v _ => v = .bl true) fun _ _ _ => False) :
    codeAny (model P w) callerA (.call (.ref fa) ⟨[.ref a], []⟩) (fun r s' => r = .ok (.ret (.bool true)) ∧ OldK s1.heap s'.heap ∧ s'.os = s1.os ∧ AllBare s'.gens) s1 := by
  let ob : Obj := { cls := .type "list", data := .seq vs.toArray }
  let H : Hp := scriptH K a ob ns
  have hH : ∀ b u, H b = some u → b = a ∧ K.lookup a = none ∧ u = .frz ob (.lst (ns.map V.int)) := by
    intro b u z
    by_cases c : b = a ∧ K.lookup a = none
    · have z2 : (if b = a ∧ K.lookup a = none then some (HO.frz ob (.lst (ns.map V.int))) else none) = some u := z
      rw [if_pos c] at z2
      cases z2
      exact ⟨c.1, c.2, rfl⟩
    · have z2 : (if b = a ∧ K.lookup a = none then some (HO.frz ob (.lst (ns.map V.int))) else none) = some u := z
      rw [if_neg c] at z2
      cases z2
  have hOnly : Only H := fun b => by
    cases z : H b with
    | none => exact .inl rfl
    | some u => exact .inr ⟨ob, _, congrArg some (hH b u z).2.2⟩
  have rv := vals_ints hi
  have sizes : vs.length = ns.length := hi.length
  have hS : SqL K H a (ns.map V.int) := by
    cases z : K.lookup a with
    | some o =>
      have e := hK a o z
      rw [ha] at e
      cases e
      exact Or.inr ⟨_, vs.toArray, _, z, rfl, rfl, rfl, by rw [List.size_toArray, sizes]; exact hn, by simpa using rv⟩
    | none => exact Or.inl (Or.inr ⟨ob, if_pos ⟨rfl, z⟩⟩)
  have hOk : HOk P w H s1.heap := fun b u z => by
    obtain ⟨e1, _, e3⟩ := hH b u z
    subst e1
    subst e3
    exact ⟨ha, by rw [List.length_map]; exact hn, vs, _, rv, ha⟩
  have stays : ∀ {b : Addr} {o : Obj}, s1.heap.get? b = some o → H b = none → (hidT s1.heap H).get? b = some o := fun e n => hidT_get e n
  have keptK : K.In (hidT s1.heap H) := by
    intro b o z
    refine stays (hK b o z) ?_
    cases q : H b with
    | none => rfl
    | some u =>
      obtain ⟨e1, e2, _⟩ := hH b u q
      rw [e1, e2] at z
      cases z
  have keptN : ∀ {b : Addr} {m : Str → Option Value}, s1.heap.Ns b m → (hidT s1.heap H).Ns b m := by
    rintro b m ⟨o, es, ep, e, d, r⟩
    refine ⟨o, es, ep, stays e ?_, d, r⟩
    cases q : H b with
    | none => rfl
    | some u =>
      obtain ⟨e1, _, _⟩ := hH b u q
      rw [e1, ha] at e
      cases e
      exact nomatch (show Data.seq vs.toArray _ = Data.dict es ep from d)
  obtain ⟨mc, l1, l2⟩ := hL
  have start0 : Env0 P w K mg (hidT s1.heap H) callerA [] s1 H :=
    { frames := rfl
      mod := ⟨keptK, keptN hm, ⟨mb, keptN hb, hbb⟩, ⟨mc, keptN l1, l2⟩⟩
      bs := fun _ _ z => of_hidT z
      bsz := Nat.le_of_eq (hidT_size _ _)
      funs := trivial
      frf := fun b z => absurd (show b ∈ ([] : List Addr) from z) (by simp)
      hok := hOk
      bare := .of_eq hgn }
  apply codeAny_mono ((F _ keptK (keptN hm)).runs callerA [] s1 H ⟨[.ref a], []⟩ [.ref a] [.ref a] _ _ hr rfl start0 (hbd s1 (.ref a)) (.cons rfl .nil) (hsp H hOnly hS))
  intro r s' h
  match r, h with
  | .error _, h => exact h.elim
  | .ok .next, h => exact h.elim
  | .ok .brk, h => exact h.elim
  | .ok .cont, h => exact h.elim
  | .ok (.ret u), ⟨v, H', os, bare, un, hok', r', q⟩ =>
    have q' : v = .bl true := q
    subst q'
    have r2 : u = Value.bool true := r'
    subst r2
    refine ⟨rfl, OldK.of_keep fun b o e => ?_, os, bare⟩
    cases q : H b with
    | none => exact un.keep b o e q (by intro z; exact absurd (show b ∈ ([] : List Addr) from z) (by simp)) (by simp)
    | some t =>
      have q2 := q
      rw [(hH b t q).2.2] at q2
      have f1 := (hOk b _ q2).1
      have f2 := (hok' b _ (un.frzs b ob _ q2)).1
      rw [e] at f1
      rw [f2, f1]

/-- the goal behind the head, from the law's promise; the script's bits told -/
theorem walk_G {l : PySem.W.OpenLaw} {n k : Nat} {q : Program} {loose : List Str} {XP : (Str → Option Value) → Heap → Prop} {YP : World → Heap → Prop} {d : DefRec} {K : Params → PySem.W.Frag} {sp : PySem.W.Frag → Sp} {x : Str}
    (hn : l.most = some n) (hn2 : n ≤ sizeLine) (hdf : d.params.defaults = []) (hr : Room k callerA) (hY : ∀ (w : World) (h : Heap), YP w h → (K w.params).In h)
    (F : ∀ (w : World) (mg : Str → Option Value) (fa : Addr) (h : Heap), (K w.params).In h → h.Ns mainGlobals mg → mg d.name = some (.ref fa) →
      ∃ fd : FuncData, (∀ (s : Shared) (u : Value), BindsTo s fd ⟨[u], []⟩ [(x, u)]) ∧ ∀ base : Heap, (K w.params).In base → base.Ns mainGlobals mg → GOk l.prog w (K w.params) mg base CX0 k fa fd [x] (sp (K w.params)))
    (hsp : ∀ (K : PySem.W.Frag) (H : Hp) (a : Addr) (ns : List Int), ns.length ≤ n → (∀ k ∈ ns, Builtin.Int.intBits k ≤ 1048576) → Only H → SqL K H a (ns.map V.int) → sp K [.ref a] H (fun v _ => v = .bl true) fun _ _ _ => False) :
    PySem.W.WalkO q loose XP YP l.row.toRowW d [] (fun f vs => PySem.call f vs) := by
  apply Att.attach_callB hn hdf
  intro w s0 s1 mg mb fa o pm cd doc a vs ns G Y ho hd hcd hmg hobj hints hlen hbits hg
  have hK := hY w _ Y
  obtain ⟨fd, hb, hF⟩ := F w mg fa _ hK G.T.g hmg
  exact law_runs hK G.T.g G.T.b G.T.builtins G.T.nolimit hg hobj hints (Nat.le_trans hlen hn2) hr hF hb fun H hO hS => hsp (K w.params) H a ns hlen hbits hO hS
end RO

namespace RO
open PySem PySem.Spec PyProof.Rows L2

/-! ### enumerate of a tuple -/
theorem drawsT {prog : Program} {w : World} {A : Around} (hh : A.handled = none) (it t : Addr) (hne : t ≠ it) (items : Array Value) :
    Draws prog w A it [it, t] items.size (fun i v => items[i]? = some v) (fun i h => h.IsTupleIter it t i ∧ h.IsTuple t items) where
  live := fun _ _ st => by
    obtain ⟨⟨o, ho, _⟩, _⟩ := st
    exact ⟨o, ho⟩
  frame := fun i h h' st hk => ⟨Heap.IsTupleIter.at st.1 (hk it (List.mem_cons_self ..)), by
    obtain ⟨o, e, r⟩ := st.2
    exact ⟨o, hk t (by simp) o e, r⟩⟩
  item := fun i s Q E hi st hQ => RZ.nextOf_tuple_item st.1 st.2 (x := items[i]) (by simp [hi]) fun h' hit' sb =>
    hQ _ h' s.toks (by simp [hi]) ⟨hit', by
      obtain ⟨o, e, r⟩ := st.2
      exact ⟨o, (sb.2 t hne).trans e, r⟩⟩ sb
  done := fun s Q E st hE => RZ.nextOf_tuple_end hh st.1 st.2 (by simp) hE

open Sem (wp) in
open AutoSeq1 (wpAny_loadPart') in
theorem meets_enum_newT (l : Addr) (items : Array Value) (n : Nat) (dct : Option Addr) (sl : Array (Option Value)) :
    Meets (Builtin.«enumerate.__new__» ⟨[.type "enumerate", .ref l], []⟩) (fun _ R s => s.heap.get? l = some { cls := .type "tuple", dict := dct, data := .seq items n, slots := sl } ∧
      R (.ok (.ret (.ref (s.heap.push { cls := .type "tuple_iterator", data := .fields #[.ref l, .int 0 0] }).objs.size)))
        { s with heap := (s.heap.push { cls := .type "tuple_iterator", data := .fields #[.ref l, .int 0 0] }).push { cls := .type "enumerate", data := .fields #[.none, .bool false, .ref s.heap.objs.size, rawInt 0, .none, .none] } }) := by
  refine Meets.of_wp fun prog w A R s h => ?_
  obtain ⟨hp, g, d, tk, os⟩ := s
  obtain ⟨hl, h⟩ := h
  have hsub := sub_enumerate
  have hT : Heap.IsTuple (Shared.heap ⟨hp, g, d, tk, os⟩) l items := ⟨_, hl, rfl, n, rfl⟩
  wp_walk using wpAny_loadPart' hl
  refine wpAny_stack_any fun st => wpAny_pure ?_
  split
  · rename_i c _ _ _ _ _
    cases (c == Value.type "enumerate") <;>
      (wp_walk using wpAny_loadPart' hl, wpAny_pyIter_tuple hT; exact ⟨_, rfl, h⟩)
  · wp_walk using wpAny_loadPart' hl, wpAny_pyIter_tuple hT
    exact ⟨_, rfl, h⟩

theorem call_enumT {prog : Program} {w : World} {A : Around} {E : Value → Shared → Prop} {s : Shared} {l : Addr} {items : Array Value} {Q : Value → Shared → Prop} (hT : s.heap.IsTuple l items)
    (h : ∀ h', IsEnum h' (s.heap.objs.size + 1) s.heap.objs.size 0 .none → h'.IsTupleIter s.heap.objs.size l 0 → h'.objs.size = s.heap.objs.size + 2 → (∀ b o, s.heap.get? b = some o → h'.get? b = some o) →
      Q (.ref (s.heap.objs.size + 1)) { s with heap := h' }) : wpAny (model prog w) A (call (.type "enumerate") [.ref l]) Q E s := by
  obtain ⟨⟨c, dct, dt, sl⟩, hl, hc, n, hd⟩ := hT
  have hc' : c = .type "tuple" := hc
  have hd' : dt = .seq items n := hd
  subst hc' hd'
  apply callType_new F.called_enumerate (by decide) (F.typeCall_enumerate_1 _) (F.newCall_enumerate_1 _) (fun obj => F.args_object_init_2 obj _) F.entry_enumerate_new (meets_enum_newT l items n dct sl)
  refine ⟨hl, ?_⟩
  let h1 := s.heap.push { cls := .type "tuple_iterator", data := .fields #[.ref l, .int 0 0] }
  have hz : h1.objs.size = s.heap.objs.size + 1 := Heap.size_push ..
  show _ ∧ _
  rw [show (s.heap.push { cls := .type "tuple_iterator", data := .fields #[.ref l, .int 0 0] }).objs.size = s.heap.objs.size + 1 from hz]
  have he : IsEnum (h1.push { cls := .type "enumerate", data := .fields #[.none, .bool false, .ref s.heap.objs.size, rawInt 0, .none, .none] }) (s.heap.objs.size + 1) s.heap.objs.size 0 .none := by
    have z := Heap.get?_push_size h1 (o := { cls := .type "enumerate", data := .fields #[.none, .bool false, .ref s.heap.objs.size, rawInt 0, .none, .none] }) rfl
    rw [hz] at z
    exact z
  exact ⟨⟨_, he, rfl⟩, h _ he ⟨_, Heap.get?_push_of_some _ (Heap.get?_push_size _ rfl), rfl, rfl⟩ ((Heap.size_push ..).trans (congrArg (· + 1) hz)) fun b o x => Heap.get?_push_of_some _ (Heap.get?_push_of_some _ x)⟩

/-- the tuple at a, each item in a new pair with its number -/
def IteT (K : PySem.W.Frag) (a : Addr) : It where
  go := fun i H => ∃ (xs : List V) (x : V), SqT K H a xs ∧ xs[i]? = some x
  yld := fun i H v H' => ∃ T x, v = .ref T ∧ H T = none ∧ H' = upd H T (.tup [.int (i : Nat), x]) ∧ ∀ xs, SqT K H a xs → xs[i]? = some x
  stop := fun i H => ∃ xs : List V, SqT K H a xs ∧ xs.length = i

theorem turn_enumT {P : Program} {w : World} {K : PySem.W.Frag} {elts : List Expr} {kk : Nat} {tpos : Pos} (a e it : Addr) (hae : a ≠ e) (hai : a ≠ it) (hne : e ≠ it) :
    Turn P w K (.Tuple elts kk tpos) (IteT K a) [e, it] e (fun i h => (∃ old, IsEnum h e it ((i : Nat) : Int) old) ∧ h.IsTupleIter it a i) where
  mem := List.mem_cons_self ..
  obj := fun i h st b hb => by
    obtain ⟨⟨old, he⟩, ⟨o, ho, hc, hd⟩⟩ := st
    rcases List.mem_cons.mp hb with z | z
    · rw [z]
      exact ⟨_, he, fun v q => nomatch q⟩
    · have z' : b = it := by simpa using z
      exact ⟨o, z' ▸ ho, fun v q => by rw [hd] at q; cases q⟩
  keep := fun i h h' st k => by
    obtain ⟨⟨old, he⟩, hi⟩ := st
    exact ⟨⟨old, k e (by simp) _ he⟩, Heap.IsTupleIter.at hi (k it (by simp))⟩
  item := by
    intro X hP hw hK hc i pins s σ H E I hf st hg
    subst hP hw hK
    obtain ⟨⟨old, he⟩, hit⟩ := st
    obtain ⟨xs, x, hq, hx⟩ := hg
    obtain ⟨its, rv, p, hz⟩ := I.tuple hq
    obtain ⟨u, hu, ru⟩ := rv.get hx
    have hlt : i < its.toArray.size := by
      obtain ⟨z, _⟩ := List.getElem?_eq_some_iff.mp hu
      simpa using z
    have hel : e < s.heap.objs.size := Heap.lt_size he
    have hil : it < s.heap.objs.size := by
      obtain ⟨_, q, _⟩ := hit
      exact Heap.lt_size q
    refine wpAny_pyNext_enum_itemD (drawsT (A := X.A.in1) (I.ok.hd hc) it a hai its.toArray) he ⟨hit, p⟩ hlt hne (by simp [hne, Ne.symm hae]) fun y h' tk hy ho hst hT hsz hk => ?_
    have ey : y = u := by
      have z : its.toArray[i]? = some u := by simpa using hu
      exact Option.some.inj (hy.symm.trans z)
    subst ey
    refine ⟨_, rfl, wpAny_letOwnedTupleGo_enum (s := { s with heap := h', toks := tk + 1 }) ho fun h2 he2 sb => ?_⟩
    have hT2 : h2.get? s.heap.objs.size = some { cls := .type "tuple", data := .seq #[.int i tk, y] } := (sb.2 _ (Nat.ne_of_gt hel)).trans hT
    have new : ObjOk X.prog X.w (upd H s.heap.objs.size (.tup [.int (i : Nat), x])) h2 s.heap.objs.size (.tup [.int (i : Nat), x]) := by
      refine ⟨by show 2 ≤ sizeLine; decide, [.int i tk, y], .cons ⟨_, rfl⟩ (.cons ru .nil), ⟨_, hT2, rfl, _, rfl⟩⟩
    have I1 : Inv X pins σ (upd H s.heap.objs.size (.tup [.int (i : Nat), x])) { s with heap := h2, toks := tk + 1 } := by
      refine I.turnedNew (ch := [e, it]) (fun b ob hb q => ?_) hf (Nat.le_refl _) new
      have n1 : b ≠ e := fun z => hb (by simp [z])
      have n2 : b ≠ it := fun z => hb (by simp [z])
      exact (sb.2 b n1).trans (hk b ob n1 n2 q)
    refine ⟨.ref s.heap.objs.size, _, I1, rfl, ⟨_, x, rfl, I.hok.fresh (Nat.le_refl _), rfl, fun ys hy => (I.tuple_inj hy hq).symm ▸ hx⟩, ⟨⟨y, ?_⟩, Heap.IsTupleIter.at hst.1 fun o q => (sb.2 it (Ne.symm hne)).trans q⟩, fun b hb => ?_⟩
    · rw [show ((i + 1 : Nat) : Int) = (i : Int) + 1 from by omega]
      exact he2
    · have hb2 : b = e ∨ b = it := by simpa using hb
      have lt : b < s.heap.objs.size := hb2.elim (fun z => z ▸ hel) fun z => z ▸ hil
      exact (upd_ne (Nat.ne_of_lt lt)).trans (hf b hb).1
  done := by
    intro X hP hw hK hc i pins s σ H E I hf st hg
    subst hP hw hK
    obtain ⟨⟨old, he⟩, hit⟩ := st
    obtain ⟨xs, hq, hx⟩ := hg
    obtain ⟨its, rv, p, hz⟩ := I.tuple hq
    obtain ⟨f0, f1, f2, f3, f4, f5⟩ := hf it (by simp)
    have hl : its.toArray.size = i := by
      rw [List.size_toArray, ← rv.length, hx]
    rw [← hl] at hit
    exact wpAny_pyNext_enum_endD (drawsT (A := X.A.in1) (I.ok.hd hc) it a hai its.toArray) he ⟨hit, p⟩ fun h' eb => ⟨rfl, I.turned (t' := s.toks) (fun b o hb q => eb b o hb q) f0 f1 f3 f4 f5⟩
  self := fun A i s Q E st h => by
    obtain ⟨⟨_, he⟩, _⟩ := st
    exact wpAny_pyIter_enum he h

/-- enumerate(x), x a list or a tuple -/
def iEnumA (K : PySem.W.Frag) (ta : TA) : TI := fun σ H R => ta σ H fun vs H1 => ∃ a xs, vs = [.ref a] ∧ ((SqL K H1 a xs ∧ R (Ite K a) H1) ∨ (SqT K H1 a xs ∧ R (IteT K a) H1))
theorem pi_enumA {X : Cx} {e : Expr} {ta : TA} {p pos tpos : Pos} {elts : List Expr} {kk : Nat} (hg : Gl X "enumerate") (hm : X.mg "enumerate" = none) (ha : PA X [e] ta) (hs : starEach [e] X.env = [(false, eval e X.env)] := by rfl) :
    PI X (.Tuple elts kk tpos) (.Call (.Name "enumerate" p) [e] [] pos) (iEnumA X.K ta) := by
  constructor
  intro pins s σ H R I h
  refine Call_ ?_
  apply ld_blt I hg hm boot_enumerate
  apply PyProof.Rows.callWith_type1 _ hs rfl
  apply thn (ha.run pos pins s σ H _ I h)
  rintro us s1 ⟨vs, H1, I1, r1, a, xs, ex, q⟩
  subst ex
  obtain ⟨u, rfl, ru⟩ := vals1 r1
  obtain rfl : u = Value.ref a := ru
  have hle : ∀ b, b ∈ [s1.heap.objs.size + 1, s1.heap.objs.size] → FpOk X pins H1 b := fun b hb => by
    have z : b = s1.heap.objs.size + 1 ∨ b = s1.heap.objs.size := by simpa using hb
    have l : s1.heap.objs.size ≤ b := by omega
    exact I1.fpOk l (I1.hok.fresh l)
  rcases q with ⟨hq, q⟩ | ⟨hq, q⟩
  · obtain ⟨its, rv, p', hz⟩ := I1.list hq
    refine call_enumerate_list p'.isList fun h' he hit hsz hk => wpAny_pyIter_enum he ?_
    exact ⟨s1.heap.objs.size + 1, [s1.heap.objs.size + 1, s1.heap.objs.size], _, _, H1, rfl, I1.kept (t' := s1.toks) hk, turn_enum a (s1.heap.objs.size + 1) s1.heap.objs.size, ⟨⟨.none, he⟩, hit, Nat.succ_ne_self _⟩, hle, q⟩
  · obtain ⟨its, rv, p', hz⟩ := I1.tuple hq
    obtain ⟨o, ho, _⟩ := id p'
    have hal : a < s1.heap.objs.size := Heap.lt_size ho
    refine call_enumT p' fun h' he hit hsz hk => wpAny_pyIter_enum he ?_
    exact ⟨s1.heap.objs.size + 1, [s1.heap.objs.size + 1, s1.heap.objs.size], _, _, H1, rfl, I1.kept (t' := s1.toks) hk, turn_enumT a (s1.heap.objs.size + 1) s1.heap.objs.size (Nat.ne_of_lt (Nat.lt_succ_of_lt hal)) (Nat.ne_of_lt hal) (Nat.succ_ne_self _), ⟨⟨.none, he⟩, hit⟩, hle, q⟩

section
variable {K : PySem.W.Frag} {a : Addr} {xs : List V}
theorem walk_enumT : Walk (IteT K a) xs.length (fun H => SqT K H a xs) (YPair (fun i => some (.int (i : Nat))) (fun i => xs[i]?)) where
  goes := fun i _ hi q => ⟨xs, xs[i], q, by simp [hi]⟩
  stops := fun _ q => ⟨xs, q, rfl⟩
  yields := fun i H v H' _ q y => by
    obtain ⟨T, x, h1, h2, h3, h4⟩ := y
    exact ⟨T, _, x, h1, h2, h3, rfl, h4 xs q⟩
theorem walk_revT : Walk (RT.ItvT K a xs.length) xs.length (fun H => SqT K H a xs) (fun i H x H' => H' = H ∧ xs[xs.length - 1 - i]? = some x) where
  goes := fun i _ hi q => ⟨hi, xs, xs[xs.length - 1 - i], q, by
    have : xs.length - 1 - i < xs.length := by omega
    simp [this]⟩
  stops := fun _ _ => Nat.le_refl _
  yields := fun i H v H' _ q y => ⟨y.1, y.2 xs q⟩
end
end RO

namespace RO
open PySem PySem.Spec PyProof.Rows L2

/-! ### heaps -/
/-- what is tracked, but at p, is kept -/
def But (p : Addr) (H H' : Hp) : Prop := ∀ b o, b ≠ p → H b = some o → H' b = some o
section
variable {K : PySem.W.Frag} {H H0 H1 H2 : Hp} {p q a c l : Addr} {o : HO} {xs : List V} {n m : Nat}
theorem But.refl : But p H H := fun _ _ _ h => h
theorem But.trans (h : But p H H1) (h2 : But p H1 H2) : But p H H2 := fun b u n e => h2 b u n (h b u n e)
theorem But.of_same (h : Same H H1) : But p H H1 := fun b u _ e => h b u e
theorem But.put : But p H (upd H p o) := fun b u n e => (upd_ne n).trans e
theorem But.new (h : But p H0 H) (hq : H q = none) : But p H0 (upd H q o) := fun b u n e => (upd_ne (ne_of_none (h b u n e) hq)).trans (h b u n e)
/-- a place that was free at the beginning may be written -/
theorem But.own (h : But p H0 H) (hl : H0 l = none) : But p H0 (upd H l o) := fun b u n e => (upd_ne (ne_of_none e hl)).trans (h b u n e)
theorem But.rd {u : HO} (h : But p H H1) (n : a ≠ p) (r : Rd H a u) : Rd H1 a u := by
  rcases r with r | ⟨o, r⟩
  · exact .inl (h _ _ n r)
  · exact .inr ⟨o, h _ _ n r⟩
theorem But.seqL (h : But p H H1) (n : a ≠ p) (r : SqL K H a xs) : SqL K H1 a xs := r.imp (h.rd n) id
theorem But.seqT (h : But p H H1) (n : a ≠ p) (r : SqT K H a xs) : SqT K H1 a xs := r.imp (h.rd n) id
theorem same_rd {u : HO} (h : Same H H1) (r : Rd H a u) : Rd H1 a u := by
  rcases r with r | ⟨o, r⟩
  · exact .inl (h _ _ r)
  · exact .inr ⟨o, h _ _ r⟩
theorem same_seqL (h : Same H H1) (r : SqL K H a xs) : SqL K H1 a xs := r.imp (same_rd h) id
theorem same_seqT (h : Same H H1) (r : SqT K H a xs) : SqT K H1 a xs := r.imp (same_rd h) id
theorem same_new (h : Same H0 H) (hq : H q = none) : Same H0 (upd H q o) := fun b u e => (upd_ne (ne_of_none (h b u e) hq)).trans (h b u e)
theorem same_own (h : Same H0 H) (hl : H0 l = none) : Same H0 (upd H l o) := fun b u e => (upd_ne (ne_of_none e hl)).trans (h b u e)

theorem alloc (hl : H l = none) (e : upd H l o = H1) : Same H H1 ∧ H1 l = some o := by
  subst e
  exact ⟨same_new (Same.refl _) hl, upd_same⟩

theorem owned (S : Same H0 H) (hl : H0 l = none) (e : upd H l o = H1) : Same H0 H1 ∧ H1 l = some o := by
  subst e
  exact ⟨same_own S hl, upd_same⟩

/-! ### the law's pen: a list of the script's cells, a place, a rest -/
def PenAt (H : Hp) (p c : Addr) (n : Nat) : Prop := ∃ at_ cy : Int, H p = some (.lst [.ref c, .int at_, .int cy]) ∧ 0 ≤ at_ ∧ at_ ≤ n ∧ 0 ≤ cy
def Cells (K : PySem.W.Frag) (H : Hp) (p c : Addr) : Prop := c ≠ p ∧ ∃ ns : List Int, SqL K H c (ns.map V.int) ∧ ns.length ≤ 63
/-- from H0 to H: the pen at p has gone on to n draws at most, all else is kept -/
structure Go (K : PySem.W.Frag) (p c : Addr) (H0 : Hp) (n : Nat) (H : Hp) : Prop where
  but : But p H0 H
  pen : PenAt H p c n
  cel : Cells K H p c
theorem Cells.but (h : Cells K H p c) (b : But p H H1) : Cells K H1 p c := by
  obtain ⟨ne, ns, r, l⟩ := h
  exact ⟨ne, ns, b.seqL ne r, l⟩
theorem PenAt.mono (h : PenAt H p c n) (hm : n ≤ m) : PenAt H p c m := by
  obtain ⟨i, j, e, h1, h2, h3⟩ := h
  exact ⟨i, j, e, h1, by omega, h3⟩
theorem Go.refl (h : PenAt H p c n) (hc : Cells K H p c) : Go K p c H n H := ⟨But.refl, h, hc⟩
theorem Go.self (g : Go K p c H0 n H) : Go K p c H n H := ⟨But.refl, g.pen, g.cel⟩
theorem Go.mono (g : Go K p c H0 n H) (hm : n ≤ m) : Go K p c H0 m H := ⟨g.but, g.pen.mono hm, g.cel⟩
theorem Go.trans (g : Go K p c H0 n H1) (g2 : Go K p c H1 m H2) : Go K p c H0 m H2 := ⟨g.but.trans g2.but, g2.pen, g2.cel⟩
theorem Go.tracked (g : Go K p c H0 n H) : ∃ o, H p = some o := by
  obtain ⟨_, _, e, _⟩ := g.pen
  exact ⟨_, e⟩
theorem Go.ne_new (g : Go K p c H0 n H) (hq : H q = none) : p ≠ q := by
  obtain ⟨o, e⟩ := g.tracked
  exact ne_of_none e hq
theorem Go.make {i j : Int} (hc : Cells K H0 p c) (b : But p H0 H) (e : H p = some (.lst [.ref c, .int i, .int j])) (h1 : 0 ≤ i) (h2 : i ≤ (n : Nat)) (h3 : 0 ≤ j) : Go K p c H0 n H := ⟨b, ⟨i, j, e, h1, h2, h3⟩, hc.but b⟩
theorem Go.free (g : Go K p c H0 n H) (hq : H q = none) : H0 q = none := by
  cases z : H0 q with
  | none => rfl
  | some o => exact absurd (g.but q o (Ne.symm (g.ne_new hq)) z) (by rw [hq]; exact nofun)
/-- a new object -/
theorem Go.new (g : Go K p c H0 n H) (hq : H q = none) : Go K p c H0 n (upd H q o) := by
  have hp := g.ne_new hq
  obtain ⟨i, j, e, r⟩ := id g.pen
  have b1 : But p H (upd H q o) := But.refl.new hq
  exact ⟨g.but.new hq, ⟨i, j, (upd_ne hp).trans e, r⟩, g.cel.but b1⟩
/-- an own object is written: it was free at the beginning; the cells aren't it -/
theorem Go.own (g : Go K p c H0 n H) (hl : H0 l = none) (hp : l ≠ p) (hc : Cells K H0 p c) : Go K p c H0 n (upd H l o) := by
  obtain ⟨i, j, e, r⟩ := id g.pen
  exact ⟨g.but.own hl, ⟨i, j, (upd_ne (Ne.symm hp)).trans e, r⟩, hc.but (g.but.own hl)⟩
theorem Go.same (g : Go K p c H0 n H) (h : Same H H1) : Go K p c H0 n H1 := by
  obtain ⟨i, j, e, r⟩ := id g.pen
  exact ⟨g.but.trans (But.of_same h), ⟨i, j, h _ _ e, r⟩, g.cel.but (But.of_same h)⟩
end

/-! ### numbers -/
theorem fmod_lt {a b : Int} (h : 0 < b) : Int.fmod a b < b := Int.fmod_lt_of_pos a h
theorem fmod_ge {a b : Int} (h : 0 < b) : 0 ≤ Int.fmod a b := Int.fmod_nonneg_of_pos a h
theorem fdiv_ge {a b : Int} (h : 0 ≤ a) (h2 : 0 ≤ b) : 0 ≤ Int.fdiv a b := Int.fdiv_nonneg h h2

theorem atI_fmod {α : Type} {xs : List α} {i : Int} (h : 0 < xs.length) : ∃ v, v ∈ xs ∧ atI xs (Int.fmod i xs.length) = some v := by
  have h0 : (0 : Int) < xs.length := by omega
  have g := fmod_ge (a := i) h0
  have l := fmod_lt (a := i) h0
  obtain ⟨j, e⟩ := Int.eq_ofNat_of_zero_le g
  rw [e] at l ⊢
  have hj : j < xs.length := by omega
  exact ⟨xs[j], List.getElem_mem hj, atI_nat (List.getElem?_eq_getElem hj)⟩
theorem atI_lt {α : Type} {xs : List α} {i : Int} (h0 : 0 ≤ i) (h : i < xs.length) : ∃ v, v ∈ xs ∧ atI xs i = some v := by
  obtain ⟨j, rfl⟩ := Int.eq_ofNat_of_zero_le h0
  have hj : j < xs.length := by omega
  exact ⟨xs[j], List.getElem_mem hj, atI_nat (List.getElem?_eq_getElem hj)⟩

/-! ### data whose repr is short -/
structure RepOk (d : PyData) (k n : Nat) : Prop where
  sh : d.showable = true
  nd : d.hasDict = false
  dp : d.depth ≤ k
  lv : d.leavesShort 400 = true
  cl : d.canLay0 = true
  bk : d.bulk ≤ n
theorem RepOk.mono {d : PyData} {k n k' n' : Nat} (h : RepOk d k n) (hk : k ≤ k') (hn : n ≤ n') : RepOk d k' n' := ⟨h.sh, h.nd, Nat.le_trans h.dp hk, h.lv, h.cl, Nat.le_trans h.bk hn⟩
theorem RepOk.fits {d : PyData} {k n : Nat} (h : RepOk d k n) (hn : n ≤ 40000) : d.shown.length ≤ sizeLine := by
  have e := PyData.shown_le_bulk 400 (by decide) d h.lv
  have b := h.bk
  have : (400 + 2) * d.bulk ≤ 402 * 40000 := Nat.mul_le_mul (by decide) (by omega)
  rw [sizeLine_eq]
  omega
theorem RepOk.none : RepOk .none 0 0 := ⟨rfl, rfl, Nat.le_refl _, by decide +kernel, rfl, Nat.le_refl _⟩
theorem RepOk.bool (b : Bool) : RepOk (.bool b) 0 0 := ⟨rfl, rfl, Nat.le_refl _, by cases b <;> decide +kernel, rfl, Nat.le_refl _⟩
theorem log2_small {i : Int} (h : i.natAbs < 2 ^ 398) : i.natAbs.log2 < 398 := by
  by_cases z : i.natAbs = 0
  · rw [z]
    decide
  · exact (Nat.log2_lt z).mpr h
theorem RepOk.int {i : Int} (h : i.natAbs < 2 ^ 398) : RepOk (.int i) 0 0 := by
  have l := log2_small h
  refine ⟨?_, rfl, Nat.le_refl _, ?_, rfl, Nat.le_refl _⟩
  · simp only [PyData.showable, decide_eq_true_eq]
    omega
  · have e := int_text_length_le (a := i) (k := 398) (by decide) l
    have e2 : (Str.ofString (toString i)).length = (toString i).length := PySem.ofString_length _
    have e3 : (PyData.int i).shown.length ≤ 400 := by
      show (Str.ofString (toString i)).length ≤ 400
      rw [e2]
      exact Nat.le_trans e (by decide)
    unfold PyData.leavesShort
    exact decide_eq_true e3
theorem RepOk.str {x : Str} {n : Nat} (h : x.length ≤ n) (hc : ∀ c ∈ x.cps.toList, c < 16 ^ 8) (ho : (PyData.str x).canLay0 = true) : RepOk (.str x) 0 n := by
  refine ⟨rfl, rfl, Nat.le_refl _, ?_, ho, h⟩
  simp only [PyData.leavesShort, List.all_eq_true, decide_eq_true_eq]
  exact hc
theorem rep_all {ds : List PyData} {k n : Nat} : (∀ d ∈ ds, RepOk d k n) → PyData.showableAll ds = true ∧ PyData.hasDictAll ds = false ∧ PyData.depthAll ds ≤ k ∧ PyData.leavesShortAll 400 ds = true ∧ PyData.canLayAll0 ds = true ∧ PyData.bulkAll ds ≤ ds.length * (n + 1) := by
  induction ds with
  | nil => intro _; exact ⟨rfl, rfl, Nat.zero_le _, rfl, rfl, Nat.zero_le _⟩
  | cons d r ih =>
    intro h
    obtain ⟨h1, h2, h3, h4, h6, h5⟩ := ih fun x hx => h x (List.mem_cons_of_mem _ hx)
    have q := h d (List.mem_cons_self ..)
    refine ⟨?_, ?_, ?_, ?_, ?_, ?_⟩
    · simp only [PyData.showableAll, q.sh, h1, Bool.and_self]
    · simp only [PyData.hasDictAll, q.nd, h2, Bool.or_self]
    · simp only [PyData.depthAll]
      exact Nat.max_le.mpr ⟨q.dp, h3⟩
    · simp only [PyData.leavesShortAll, q.lv, h4, Bool.and_self]
    · simp only [PyData.canLayAll0, q.cl, h6, Bool.and_self]
    · simp only [PyData.bulkAll, List.length_cons]
      have b := q.bk
      have e : (r.length + 1) * (n + 1) = r.length * (n + 1) + (n + 1) := Nat.succ_mul _ _
      omega
theorem RepOk.list {ds : List PyData} {k n : Nat} (h : ∀ d ∈ ds, RepOk d k n) : RepOk (.list ds) (k + 1) (ds.length * (n + 1)) := by
  obtain ⟨h1, h2, h3, h4, h6, h5⟩ := rep_all h
  exact ⟨by simpa only [PyData.showable] using h1, by simpa only [PyData.hasDict] using h2, by simp only [PyData.depth]; omega, by simpa only [PyData.leavesShort] using h4, by simpa only [PyData.canLay0] using h6, by simpa only [PyData.bulk] using h5⟩
theorem RepOk.tuple {ds : List PyData} {k n : Nat} (h : ∀ d ∈ ds, RepOk d k n) : RepOk (.tuple ds) (k + 1) (ds.length * (n + 1)) := by
  obtain ⟨h1, h2, h3, h4, h6, h5⟩ := rep_all h
  exact ⟨by simpa only [PyData.showable] using h1, by simpa only [PyData.hasDict] using h2, by simp only [PyData.depth]; omega, by simpa only [PyData.leavesShort] using h4, by simpa only [PyData.canLay0] using h6, by simpa only [PyData.bulk] using h5⟩

theorem RepOk.shaped {d : PyData} {k n : Nat} (h : RepOk d k n) (hk : k ≤ 64) : SeqAt.shaped d = true := by
  unfold SeqAt.shaped
  rw [h.cl, Bool.true_and]
  exact decide_eq_true (Nat.le_trans h.dp hk)
/-- repr(x): its text, by the data alone -/
def rRepr2 (K : PySem.W.Frag) : List V → Hp → VK → Prop := fun xs H Q => ∃ v d k n, xs = [v] ∧ Dp K H v d ∧ RepOk d k n ∧ k ≤ 40 ∧ n ≤ 40000 ∧ Q (.str d.shown) H
theorem call_reprD {X : Cx} (hG : X.A.guards = some []) (hu : X.A.units + 64 < cLine) : CallR X (.builtin "repr") (rRepr2 X.K) := by
  intro pins s σ H xs us Q I r h
  obtain ⟨v, d, k, n, e, hd, ok, hk, hn, q⟩ := h
  exact call_repr hG hu pins s σ H xs us Q I r ⟨v, d, e, hd, ok.sh, ok.nd, Nat.le_trans ok.dp hk, ok.fits hn, q⟩

/-! data that is read at one heap is read at each that keeps what is tracked -/
section
variable {K : PySem.W.Frag} {H H1 : Hp}
mutual
theorem dp_same (h : Same H H1) : ∀ (d : PyData) (v : V), Dp K H v d → Dp K H1 v d
  | .none, _, q => by
    cases q
    exact .non
  | .bool b, _, q => by
    cases q
    exact .bl b
  | .int i, _, q => by
    cases q
    exact .int i
  | .str x, _, q => by
    cases q
    exact .str x
  | .list ds, _, q => by
    cases q with
    | lst h1 h2 => exact .lst (same_seqL h h1) (dpAll_same h ds _ h2)
  | .tuple ds, _, q => by
    cases q with
    | tup h1 h2 => exact .tup (same_seqT h h1) (dpAll_same h ds _ h2)
  | .dict _, _, q => nomatch q
theorem dpAll_same (h : Same H H1) : ∀ (ds : List PyData) (vs : List V), DpAll K H vs ds → DpAll K H1 vs ds
  | [], _, q => by
    cases q
    exact .nil
  | d :: ds, _, q => by
    cases q with
    | cons h1 h2 => exact .cons (dp_same h d _ h1) (dpAll_same h ds _ h2)
end
/-- flat things as data -/
theorem dpAll_ints : ∀ ns : List Int, DpAll K H (ns.map V.int) (ns.map PyData.int)
  | [] => .nil
  | n :: r => .cons (.int n) (dpAll_ints r)
theorem dpAll_strs : ∀ ns : List Str, DpAll K H (ns.map V.str) (ns.map PyData.str)
  | [] => .nil
  | n :: r => .cons (.str n) (dpAll_strs r)
theorem DpAll.map {α : Type} {f : α → V} {g : α → PyData} : ∀ {l : List α}, (∀ x ∈ l, Dp K H (f x) (g x)) → DpAll K H (l.map f) (l.map g)
  | [], _ => .nil
  | x :: r, h => .cons (h x (List.mem_cons_self ..)) (DpAll.map fun y hy => h y (List.mem_cons_of_mem _ hy))
end
end RO

namespace RO
open PySem PySem.Spec PyProof.Rows L2

/-! ### short texts -/
def TOk (k : Nat) (t : Str) : Prop := t.length ≤ k ∧ ∀ c ∈ t.cps.toList, c < 128
theorem TOk.mono {k j : Nat} {t : Str} (h : TOk k t) (l : k ≤ j) : TOk j t := ⟨Nat.le_trans h.1 l, h.2⟩
theorem str_len (t : Str) : t.length = t.cps.toList.length := by
  show t.cps.size = _
  simp
theorem cut_ok {k : Nat} {t : Str} (h : TOk k t) (lo hi : Option Int) : TOk k (cutS t lo hi) := by
  refine ⟨?_, fun c hc => ?_⟩
  · have e := str_len (cutS t lo hi)
    have e2 := str_len t
    have l := h.1
    rw [e]
    unfold cutS
    simp only [List.length_take, List.length_drop]
    omega
  · unfold cutS at hc
    simp only at hc
    exact h.2 c (List.mem_of_mem_drop (List.mem_of_mem_take hc))
theorem codes_app (a b : Str) : (a ++ b).cps.toList = a.cps.toList ++ b.cps.toList := by
  show (a.cps ++ b.cps).toList = _
  simp
theorem codes_join0 : ∀ l : List Str, (Str.join (Str.ofString "") l).cps.toList = l.flatMap (·.cps.toList)
  | [] => rfl
  | [x] => by
    show x.cps.toList = _
    simp
  | x :: y :: r => by
    show (x ++ Str.ofString "" ++ Str.join (Str.ofString "") (y :: r)).cps.toList = _
    rw [codes_app, codes_app, codes_join0 (y :: r)]
    have : (Str.ofString "").cps.toList = [] := by decide +kernel
    rw [this, List.append_nil]
    simp only [List.flatMap_cons]
/-- signs put together -/
theorem join_ok {l : List Str} (h : ∀ x ∈ l, TOk 1 x) : TOk l.length (Str.join (Str.ofString "") l) := by
  refine ⟨?_, fun c hc => ?_⟩
  · rw [str_len, codes_join0]
    induction l with
    | nil => exact Nat.le_refl _
    | cons x r ih =>
      have a := (h x (List.mem_cons_self ..)).1
      rw [str_len] at a
      have b := ih fun y hy => h y (List.mem_cons_of_mem _ hy)
      rw [List.flatMap_cons, List.length_append, List.length_cons]
      omega
  · rw [codes_join0] at hc
    obtain ⟨x, hx, hc⟩ := List.mem_flatMap.mp hc
    exact (h x hx).2 c hc
theorem RepOk.tok {k : Nat} {t : Str} (h : TOk k t) : RepOk (.str t) 0 k := by
  refine RepOk.str h.1 (fun c hc => Nat.lt_of_lt_of_le (h.2 c hc) (by decide)) ?_
  simp only [PyData.canLay0, PyData.strOk, ← Array.all_toList, List.all_eq_true, decide_eq_true_eq]
  exact fun c hc => Nat.lt_of_lt_of_le (h.2 c hc) (by decide)

/-! ### rows -/
/-- what a row bears -/
inductive What where
  | order (i : Int)
  | name (t : Str)
  deriving DecidableEq
def What.v : What → V
  | .order i => .int i
  | .name t => .str t
def What.d : What → PyData
  | .order i => .int i
  | .name t => .str t
theorem What.v_inj {a b : What} (h : a.v = b.v) : a = b := by
  cases a <;> cases b <;> simp_all [What.v]
theorem What.dp {K : PySem.W.Frag} {H : Hp} (x : What) : Dp K H x.v x.d := by
  cases x with
  | order i => exact .int i
  | name t => exact .str t
theorem What.rep {x : What} (h : (∃ i : Int, x = .order i ∧ -4 ≤ i ∧ i ≤ 4) ∨ ∃ t, x = .name t ∧ TOk 8 t) : RepOk x.d 0 8 := by
  rcases h with ⟨i, rfl, h1, h2⟩ | ⟨t, rfl, h⟩
  · exact (RepOk.int (by omega)).mono (Nat.le_refl _) (by omega)
  · exact RepOk.tok h
theorem scal_what (x y : What) : scal x.v y.v = true := by cases x <;> cases y <;> rfl
theorem What.flat (x : What) : flatV x.v = true := by cases x <;> rfl
structure Row where
  m : Int
  l : Str
  w : What
def lines6 : List Str := ["port", "star", "down", "aport", "astar", "up"]
def tubes : List Str := ["down", "up"]
/-- a row as DOC asks -/
structure Row.Ok (r : Row) : Prop where
  m0 : 0 ≤ r.m
  m1 : r.m ≤ 99999
  ln : r.l ∈ lines6
  wh : (r.l ∈ tubes ∧ ∃ t, r.w = .name t ∧ TOk 8 t) ∨ (r.l ∉ tubes ∧ ∃ i, r.w = .order i ∧ -4 ≤ i ∧ i ≤ 4)
theorem lines6_ok : ∀ l ∈ lines6, TOk 8 l := by
  intro l h
  have h2 : l = "port" ∨ l = "star" ∨ l = "down" ∨ l = "aport" ∨ l = "astar" ∨ l = "up" := by simpa [lines6] using h
  rcases h2 with rfl | rfl | rfl | rfl | rfl | rfl <;> exact ⟨by decide +kernel, by decide +kernel⟩
def Row.d (r : Row) : PyData := .tuple [.int r.m, .str r.l, r.w.d]
theorem Row.Ok.rep {r : Row} (h : r.Ok) : RepOk r.d 1 27 := by
  refine (RepOk.tuple (k := 0) (n := 8) fun d hd => ?_).mono (Nat.le_refl _) (by show 3 * 9 ≤ 27; omega)
  have z : d = .int r.m ∨ d = .str r.l ∨ d = r.w.d := by simpa using hd
  rcases z with rfl | rfl | rfl
  · exact (RepOk.int (by have := h.m0; have := h.m1; omega)).mono (Nat.le_refl _) (by omega)
  · exact RepOk.tok (lines6_ok _ h.ln)
  · refine What.rep ?_
    rcases h.wh with ⟨_, t, e, q⟩ | ⟨_, i, e, q1, q2⟩
    · exact .inr ⟨t, e, q⟩
    · exact .inl ⟨i, e, q1, q2⟩

/-- the row r stands at a -/
def RowAt (K : PySem.W.Frag) (H : Hp) (a : Addr) (r : Row) : Prop := SqT K H a [.int r.m, .str r.l, r.w.v]
/-- rows at places -/
inductive RowsAt (K : PySem.W.Frag) (H : Hp) : List Addr → List Row → Prop
  | nil : RowsAt K H [] []
  | cons {a : Addr} {r : Row} {as : List Addr} {rs : List Row} : RowAt K H a r → RowsAt K H as rs → RowsAt K H (a :: as) (r :: rs)
/-- the log rs stands at t -/
def LogAt (K : PySem.W.Frag) (H : Hp) (t : Addr) (rs : List Row) : Prop := ∃ as : List Addr, SqT K H t (as.map V.ref) ∧ RowsAt K H as rs
section
variable {K : PySem.W.Frag} {H H1 : Hp} {t a : Addr} {as : List Addr} {rs : List Row} {r : Row}
theorem RowsAt.length (h : RowsAt K H as rs) : as.length = rs.length := by
  induction h with
  | nil => rfl
  | cons _ _ ih => exact congrArg (· + 1) ih
theorem RowsAt.get (h : RowsAt K H as rs) : ∀ {i : Nat} {r : Row}, rs[i]? = some r → ∃ a, as[i]? = some a ∧ RowAt K H a r := by
  induction h with
  | nil => intro i r e; simp at e
  | cons h1 _ ih =>
    intro i r e
    cases i with
    | zero =>
      simp at e
      subst e
      exact ⟨_, rfl, h1⟩
    | succ i => exact ih (by simpa using e)
theorem RowsAt.get' (h : RowsAt K H as rs) : ∀ {i : Nat} {a : Addr}, as[i]? = some a → ∃ r, rs[i]? = some r ∧ RowAt K H a r := by
  induction h with
  | nil => intro i r e; simp at e
  | cons h1 _ ih =>
    intro i r e
    cases i with
    | zero =>
      simp at e
      subst e
      exact ⟨_, rfl, h1⟩
    | succ i => exact ih (by simpa using e)
theorem RowsAt.snoc (h : RowsAt K H as rs) (h1 : RowAt K H a r) : RowsAt K H (as ++ [a]) (rs ++ [r]) := by
  induction h with
  | nil => exact .cons h1 .nil
  | cons h2 _ ih => exact .cons h2 ih
theorem RowsAt.imp (h : RowsAt K H as rs) (f : ∀ a r, RowAt K H a r → RowAt K H1 a r) : RowsAt K H1 as rs := by
  induction h with
  | nil => exact .nil
  | cons h2 _ ih => exact .cons (f _ _ h2) ih
theorem RowsAt.same (h : RowsAt K H as rs) (s : Same H H1) : RowsAt K H1 as rs := h.imp fun _ _ q => same_seqT s q
theorem seqT_lst {p : Addr} {xs ys : List V} (h : SqT K H a xs) (hp : H p = some (.lst ys)) (b : But p H H1) : SqT K H1 a xs := by
  rcases h with h | h
  · have n : a ≠ p := by
      rcases h with h | ⟨o, h⟩
      · exact ne_of h hp (by intro z; cases z)
      · exact ne_of h hp (by intro z; cases z)
    exact .inl (b.rd n h)
  · exact .inr h
theorem seqT_go {p c : Addr} {n : Nat} {xs : List V} (h : SqT K H a xs) (hp : PenAt H p c n) (b : But p H H1) : SqT K H1 a xs := by
  obtain ⟨_, _, e, _⟩ := hp
  exact seqT_lst h e b
theorem RowsAt.lst {p : Addr} {ys : List V} (h : RowsAt K H as rs) (hp : H p = some (.lst ys)) (b : But p H H1) : RowsAt K H1 as rs := h.imp fun _ _ q => seqT_lst q hp b
theorem RowsAt.go {p c : Addr} {n : Nat} (h : RowsAt K H as rs) (hp : PenAt H p c n) (b : But p H H1) : RowsAt K H1 as rs := by
  obtain ⟨_, _, e, _⟩ := hp
  exact h.lst e b
theorem LogAt.go {p c : Addr} {n : Nat} (h : LogAt K H t rs) (hp : PenAt H p c n) (b : But p H H1) : LogAt K H1 t rs := by
  obtain ⟨as, h1, h2⟩ := h
  obtain ⟨_, _, e, _⟩ := id hp
  exact ⟨as, seqT_lst h1 e b, h2.go hp b⟩
theorem RowsAt.take (h : RowsAt K H as rs) (n : Nat) : RowsAt K H (as.take n) (rs.take n) := by
  induction h generalizing n with
  | nil => simp; exact .nil
  | cons h2 _ ih =>
    cases n with
    | zero => exact .nil
    | succ n => exact .cons h2 (ih n)
theorem RowsAt.drop (h : RowsAt K H as rs) (n : Nat) : RowsAt K H (as.drop n) (rs.drop n) := by
  induction h generalizing n with
  | nil => simp; exact .nil
  | cons h2 h3 ih =>
    cases n with
    | zero => exact .cons h2 h3
    | succ n => exact ih n
theorem LogAt.same (h : LogAt K H t rs) (s : Same H H1) : LogAt K H1 t rs := by
  obtain ⟨as, h1, h2⟩ := h
  exact ⟨as, same_seqT s h1, h2.same s⟩
theorem RowAt.dp (h : RowAt K H a r) : Dp K H (.ref a) r.d := .tup h (.cons (.int _) (.cons (.str _) (.cons r.w.dp .nil)))
theorem RowsAt.dp (h : RowsAt K H as rs) : DpAll K H (as.map V.ref) (rs.map Row.d) := by
  induction h with
  | nil => exact .nil
  | cons h2 _ ih => exact .cons h2.dp ih
theorem LogAt.dp (h : LogAt K H t rs) : Dp K H (.ref t) (.tuple (rs.map Row.d)) := by
  obtain ⟨as, h1, h2⟩ := h
  exact .tup h1 h2.dp
theorem log_rep (h : ∀ r ∈ rs, r.Ok) (l : rs.length ≤ 41) : RepOk (.tuple (rs.map Row.d)) 2 1148 := by
  refine (RepOk.tuple (k := 1) (n := 27) fun d hd => ?_).mono (Nat.le_refl _) ?_
  · obtain ⟨r, hr, rfl⟩ := List.mem_map.mp hd
    exact (h r hr).rep
  · rw [List.length_map]
    omega
end
theorem ints_rep {ns : List Int} {k : Nat} (h : ∀ n ∈ ns, n.natAbs < 2 ^ 398) (l : ns.length ≤ k) : RepOk (.list (ns.map PyData.int)) 1 k := by
  refine (RepOk.list (k := 0) (n := 0) fun d hd => ?_).mono (Nat.le_refl _) ?_
  · obtain ⟨r, hr, rfl⟩ := List.mem_map.mp hd
    exact RepOk.int (h r hr)
  · rw [List.length_map]
    omega
theorem cut_take (xs : List V) (i : Nat) (h : i ≤ xs.length) : cutV xs none (some (i : Int)) = xs.take i := by
  unfold cutV
  rw [HT.sIx_none, HT.sIx_nat, List.drop_zero, Nat.min_eq_left h, Nat.sub_zero]
theorem cut_drop (xs : List V) (i : Nat) : cutV xs (some (i : Int)) none = xs.drop i := by
  unfold cutV
  rw [HT.sIx_none, HT.sIx_nat]
  by_cases h : i ≤ xs.length
  · rw [Nat.min_eq_left h, List.take_of_length_le (by rw [List.length_drop]; exact Nat.le_refl _)]
  · rw [Nat.min_eq_right (by omega), List.drop_length, List.drop_eq_nil_of_le (by omega)]
    simp
theorem cut_not (xs : List V) (i : Nat) (h : i < xs.length) : ¬(HT.sIx xs.length 0 none = 0 ∧ HT.sIx xs.length xs.length (some (i : Int)) = xs.length) := fun z => by
  rw [HT.sIx_nat] at z
  omega
/-! ### the rules that name the written part, with it said: they stand within comprehensions, too -/
section
variable (K : PySem.W.Frag) {X : Cx}
theorem kx_seq (h : X.K = K := by rfl) : IxR X (rIx K) := by
  subst h
  exact ix_seq
theorem kx_list (h : X.K = K := by rfl) : IxR X (rIxL K) := by
  subst h
  exact ix_list
theorem kx_tup (h : X.K = K := by rfl) : IxR X (rIxT K) := by
  subst h
  exact ix_tup
theorem k_slL (h : X.K = K := by rfl) : SlR X (rSlL K) := by
  subst h
  exact sl_list
theorem k_slT (h : X.K = K := by rfl) : SlR X (rSlT K) := by
  subst h
  exact sl_tup
theorem k_slA (h : X.K = K := by rfl) : SlR X (rSlA K) := by
  subst h
  exact sl_tupA
theorem k_in (h : X.K = K := by rfl) : OpR X (compareOp .In) (rIn K false) := by
  subst h
  exact op_in_seq
theorem k_notin (h : X.K = K := by rfl) : OpR X (compareOp .NotIn) (rIn K true) := by
  subst h
  exact op_notIn_seq
def rLen (K : PySem.W.Frag) : List V → Hp → VK → Prop := fun xs H Q => ∃ p ys, xs = [.ref p] ∧ (SqL K H p ys ∨ SqT K H p ys) ∧ Q (.int ys.length) H
theorem k_len (h : X.K = K := by rfl) : CallR X (.builtin "len") (rLen K) := by
  subst h
  exact call_len_seq
theorem k_isi (h : X.K = K := by rfl) : CallR X (.builtin "isinstance") (rIsi K) := by
  subst h
  exact call_isi
theorem k_eqD (hu : X.A.units + 64 < cLine) (h : X.K = K := by rfl) : OpR X (compareOp .Eq) (rEqD K) := by
  subst h
  exact op_eqD hu
theorem k_neD (hu : X.A.units + 64 < cLine) (h : X.K = K := by rfl) : OpR X (compareOp .NotEq) (rNeD K) := by
  subst h
  exact op_neD hu
theorem k_repr (hG : X.A.guards = some []) (hu : X.A.units + 64 < cLine) (h : X.K = K := by rfl) : CallR X (.builtin "repr") (rRepr2 K) := by
  subst h
  exact call_reprD hG hu
def rTupOf (K : PySem.W.Frag) : List V → Hp → VK → Prop := fun xs H Q => ∃ p ys, xs = [.ref p] ∧ ((SqL K H p ys ∧ ∀ l, H l = none → Q (.ref l) (upd H l (.tup ys))) ∨ (SqT K H p ys ∧ Q (.ref p) H))
theorem k_tupOf (h : X.K = K := by rfl) : CallR X (.type "tuple") (rTupOf K) := by
  subst h
  exact call_tuple_of
def rListOf (K : PySem.W.Frag) : List V → Hp → VK → Prop := fun xs H Q => ∃ p ys, xs = [.ref p] ∧ (SqL K H p ys ∨ SqT K H p ys) ∧ ∀ l, H l = none → Q (.ref l) (upd H l (.lst ys))
theorem k_listOf (h : X.K = K := by rfl) : CallR X (.type "list") (rListOf K) := by
  subst h
  exact call_list_of
theorem k_isiT (h : X.K = K := by rfl) : CallR X (.builtin "isinstance") (rIsiT K) := by
  subst h
  exact call_isiT
theorem k_all (hc : X.calm = true) (h : X.K = K := by rfl) : CallR X (.builtin "all") (rAll K) := by
  subst h
  exact cr_all hc
theorem k_any (hc : X.calm = true) (h : X.K = K := by rfl) : CallR X (.builtin "any") (rAny K) := by
  subst h
  exact cr_any hc
theorem k_sorted (h : X.K = K := by rfl) : CallR X (.builtin "sorted") (rSortedI K) := by
  subst h
  exact cr_sortedI
theorem k_catT (h : X.K = K := by rfl) : OpR X (binaryOp .Add) (rCatT K) := by
  subst h
  exact op_catT
theorem k_pgT {es : List Expr} {k : Nat} {t : TGs} {n : Nat} {pos : Pos} (hc : X.calm = true) (h : PGs X es t) (hn : (assignEach es X.env).length = n := by rfl) (hs : (assignEach es X.env).findIdx? (fun p => p.1) = none := by rfl) (hK : X.K = K := by rfl) : PG X (.Tuple es k pos) (gTup K n t) := by
  subst hK
  exact pg_tup hc h hn hs
theorem k_piL {tg l : Expr} {tl : TE} (hl : PE X l tl) (h : X.K = K := by rfl) : PI X tg l (iList K tl) := by
  subst h
  exact pi_list hl
theorem k_piT {tg l : Expr} {tl : TE} (hl : PE X l tl) (h : X.K = K := by rfl) : PI X tg l (iTup K tl) := by
  subst h
  exact pi_tup hl
end
/-! ### lists and tuples alike -/
/-- a list or a tuple is read -/
def SqE (K : PySem.W.Frag) (H : Hp) (a : Addr) (xs : List V) : Prop := SqL K H a xs ∨ SqT K H a xs
def gEither (K : PySem.W.Frag) (n : Nat) (t : TGs) : TG := fun v σ H Q => ∃ a xs, v = .ref a ∧ SqE K H a xs ∧ xs.length = n ∧ t xs σ H Q
/-- x[i], x a list or a tuple -/
def rIxE (K : PySem.W.Frag) : R2 := fun x y H Q => ∃ p xs i v, x = .ref p ∧ y = .int i ∧ SqE K H p xs ∧ atI xs i = some v ∧ Q v H
theorem kx_E (K : PySem.W.Frag) {X : Cx} (hK : X.K = K := by rfl) : IxR X (rIxE K) := by
  subst hK
  rintro value slice pins s σ H x y v u Q I rx ry ⟨p, xs, i, z, e1, e2, hq | hq, e3, q⟩ hs
  · exact ix_list value slice pins s σ H x y v u Q I rx ry ⟨p, xs, i, z, e1, e2, hq, e3, q⟩ hs
  · exact ix_tup value slice pins s σ H x y v u Q I rx ry ⟨p, xs, i, z, e1, e2, hq, e3, q⟩ hs
/-- for x in v, v a name of a list or of a tuple -/
def iEither (K : PySem.W.Frag) (i : Nat) : TI := fun σ H R => ∃ a, σ[i]? = some (some (V.ref a)) ∧ (((∃ xs, SqL K H a xs) ∧ R (Itl K a) H) ∨ ((∃ xs, SqT K H a xs) ∧ R (Itt K a) H))
theorem k_piV (K : PySem.W.Frag) {X : Cx} {tg l : Expr} {i : Nat} (hl : PE X l (tVar i)) (hK : X.K = K := by rfl) : PI X tg l (iEither K i) := by
  subst hK
  constructor
  rintro pins s σ H R I ⟨a, e, ⟨hq, q⟩ | ⟨hq, q⟩⟩
  · exact (pi_list hl).run pins s σ H R I ⟨_, e, a, rfl, hq, q⟩
  · exact (pi_tup hl).run pins s σ H R I ⟨_, e, a, rfl, hq, q⟩
section
variable {X : Cx} {K : PySem.W.Frag} {H H1 : Hp} {a p : Addr} {xs : List V}
theorem SqE.same (h : SqE K H a xs) (s : Same H H1) : SqE K H1 a xs := h.imp (same_seqL s) (same_seqT s)
theorem k_pgE (K : PySem.W.Frag) {es : List Expr} {k : Nat} {t : TGs} {n : Nat} {pos : Pos} (hc : X.calm = true) (h : PGs X es t) (hn : (assignEach es X.env).length = n := by rfl) (hs : (assignEach es X.env).findIdx? (fun p => p.1) = none := by rfl)
    (hK : X.K = K := by rfl) : PG X (.Tuple es k pos) (gEither K n t) := by
  subst hK
  constructor
  rintro pins s σ H v u Q I r ⟨a, xs, e1, hq | hq, hl, hw⟩
  · exact (pg_unl hc h hn hs).run pins s σ H v u Q I r ⟨a, xs, e1, hq, hl, hw⟩
  · exact (pg_tup hc h hn hs).run pins s σ H v u Q I r ⟨a, xs, e1, hq, hl, hw⟩
theorem seqT_ty (h : SqT K H a xs) : TyX K H (.ref a) (.type "tuple") := by
  rcases h with (h | ⟨o, h⟩) | ⟨o, its, n, e, c, _⟩
  · exact .base (.tup h)
  · exact .fTuple h
  · exact .kTuple e c
theorem seqL_ty (h : SqL K H a xs) : TyX K H (.ref a) (.type "list") := by
  rcases h with (h | ⟨o, h⟩) | ⟨o, its, n, e, c, _⟩
  · exact .base (.lst h)
  · exact .base (.frz h)
  · exact .kList e c
end
/-! ### defs with defaults -/
section
variable {P : Program} {w : World} {K : PySem.W.Frag} {mg : Str → Option Value} {base : Heap} {x qual : Str} {params : Arguments} {body : List Stmt} {scope : Scope} {dvs : List V} {f : Addr} {fd : FuncData} {ps : List Str}
theorem FunD_okN {N : List Str} {k : Nat} {sp : Sp} (F : FunD K x qual params body scope dvs [] f fd) (S : FnScope N ps scope) (len : ∀ vs H Q E, sp vs H Q E → vs.length = ps.length)
    (hb : ∀ (cdv : Value) (A : Around) (outer : List Env) (s : Shared) (H : Hp) (vs : List V) (Q : VK) (E : XK), Room k (A.deeper (envOfC qual scope s.heap.objs.size f cdv)) → sp vs H Q E →
      ∃ t, PSs (cxOf CX0 P w K mg base N qual scope f cdv A outer s H E).nox body t ∧ t { nx := fun _ H' => Q .non H', rt := Q } (start N vs) H) : FnOk P w K mg base CX0 (k + 1) f fd ps sp :=
  F.ok S len fun cdv A outer s H vs Q E hr h => by
    obtain ⟨t, h1, h2⟩ := hb cdv A outer s H vs Q E hr h
    exact ⟨t, h1.nox, h2⟩
theorem FunD_mk {oc : Value} {od an : Option Addr} {T : Addr} {kV doc pm cdv ct : Value} {osl : Array (Option Value)} {tc : Value} {td : Option Addr} {its : Array Value} {n : Nat} {tsl : Array (Option Value)}
    (l : K.lookup f = some ⟨oc, od, .func (PySem.W.fnOf x qual params body scope (.ref T) kV doc pm an cdv ct), osl⟩) (c : PySem.W.codeIn K cdv qual = true) (k : PySem.W.keepIn K (.ref f) = true)
    (lt : K.lookup T = some ⟨tc, td, .seq its n, tsl⟩) (v : Vals dvs its.toList) (hd : dvs ≠ []) : FunD K x qual params body scope dvs [] f (PySem.W.fnOf x qual params body scope (.ref T) kV doc pm an cdv ct) :=
  ⟨⟨oc, od, _, kV, doc, pm, an, cdv, ct, osl, rfl, l, c, .inr ⟨hd, T, _, its.toList, n, rfl, lt, by simp, v⟩, .inl rfl⟩, k⟩
/-- keywords, the defaults filling up what lacks -/
theorem FunD_kb (F : FunD K x qual params body scope dvs [] f fd) (hd : dvs ≠ []) (ks : List Str) (g : List Value → List Value → List Value → List Value) (gV : List V → List V → List V → List V)
    (rel : ∀ {vs ds zs : List V} {us its ws : List Value}, Vals vs us → Vals ds its → Vals zs ws → Vals (gV vs ds zs) (g us its ws))
    (h : ∀ (T : Addr) (kV doc pm : Value) (an : Option Addr) (cdv ct : Value) (us its ws : List Value), its.length = dvs.length → (g us its ws).length = ps.length →
      ∃ k, bindArgs (PySem.W.fnOf x qual params body scope (.ref T) kV doc pm an cdv ct) ⟨us, ks.zip ws⟩ = seqItems? (.ref T) >>= k ∧ k (some its.toArray) = pure (ps.zip (g us its ws))) :
    ∃ its : List Value, KBinds K fd ps ks (fun us ws => g us its ws) (fun vs zs => gV vs dvs zs) := by
  obtain ⟨oc, od, dV, kV, doc, pm, an, cdv, ct, osl, e, lk, hcd, hD, _⟩ := F.ex
  subst e
  rcases hD with ⟨e, _⟩ | ⟨_, T, o, its, m, rfl, lT, oT, rT⟩
  · exact absurd e hd
  · refine ⟨its, fun s us ws X hl => ?_, fun r1 r2 => rel r1 rT r2⟩
    obtain ⟨k, e1, e2⟩ := h T kV doc pm an cdv ct us its ws rT.length.symm hl
    refine BindsTo.of_looks fun M => ?_
    rw [e1]
    exact looks_items X lT oT (.of_pure e2)
end
end RO

namespace RO
open PySem PySem.Spec PyProof.Rows L2

/-! ### dicts of at most one pair, as data -/
/-- a number or a text, as data -/
inductive Sc : V → PyData → Prop
  | int (i : Int) : Sc (.int i) (.int i)
  | str (t : Str) : Sc (.str t) (.str t)
/-- data, or a small dict -/
inductive Dq (K : PySem.W.Frag) (H : Hp) : V → PyData → Prop
  | dp {v : V} {d : PyData} {k n : Nat} : Dp K H v d → RepOk d k n → k ≤ 40 → n ≤ 40000 → Dq K H v d
  | d0 {a : Addr} : H a = some (.dK []) → Dq K H (.ref a) (.dict [])
  | d1 {a : Addr} {t : Str} {x : V} {e : PyData} {n : Nat} : H a = some (.dK [(.inr t, x)]) → Sc x e → RepOk e 0 n → n ≤ 1000 → TOk 8 t → Dq K H (.ref a) (.dict [(.str t, e)])
theorem Dq.same {K : PySem.W.Frag} {H H1 : Hp} {v : V} {d : PyData} (h : Dq K H v d) (s : Same H H1) : Dq K H1 v d := by
  cases h with
  | dp h1 h2 h3 h4 => exact .dp (dp_same s _ _ h1) h2 h3 h4
  | d0 e => exact .d0 (s _ _ e)
  | d1 e a b c l => exact .d1 (s _ _ e) a b c l
theorem shown_short {d : PyData} {k n : Nat} (h : RepOk d k n) (hn : n ≤ 1000) : d.shown.length ≤ 402 * 1001 := by
  have e := PyData.shown_le_bulk 400 (by decide) d h.lv
  have b := h.bk
  have : (400 + 2) * d.bulk ≤ 402 * 1000 := Nat.mul_le_mul (by decide) (by omega)
  omega
theorem str_app (a b : Str) : (a ++ b).length = a.length + b.length := by
  rw [str_len, str_len, str_len, codes_app, List.length_append]
/-- repr(x), x data or a small dict -/
def rRepr4 (K : PySem.W.Frag) : List V → Hp → VK → Prop := fun xs H Q => ∃ v d, xs = [v] ∧ Dq K H v d ∧ Q (.str d.shown) H
theorem sys_ne {a : Addr} (h : (a == sysModules) = false) : a ≠ sysModules := fun z => by
  rw [z] at h
  simp at h
theorem call_repr4 {X : Cx} (hG : X.A.guards = some []) (hu : X.A.units + 64 < cLine) : CallR X (.builtin "repr") (rRepr4 X.K) := by
  intro pins s σ H xs us Q I r h
  obtain ⟨v, d, e, hd, q⟩ := h
  cases hd with
  | dp h1 h2 h3 h4 => exact call_reprD hG hu pins s σ H xs us Q I r ⟨v, d, _, _, e, h1, h2, h3, h4, q⟩
  | @d0 a ha =>
    subst e
    rw [Vals.ref1 r]
    have fin : ∀ (h' : Heap) (u : Tok) (tk : Nat), (∀ b o, s.heap.get? b = some o → h'.get? b = some o) → EP X pins σ Q (.str (PyData.dict []).shown u) { s with heap := h', toks := tk } :=
      fun h' u tk hk => ⟨.str (PyData.dict []).shown, H, I.un (Un.kept hk) (I.hok.kept hk), ⟨u, rfl⟩, q⟩
    obtain ⟨_, hs, vs, rel, o, es, ep, ho, hx, hdat, hk, hp, _⟩ := dk_of I.hok ha
    cases rel
    have he : es.toList = [] := by
      have := hp.length
      exact List.eq_nil_of_length_eq_zero this
    have rd : Reads s.heap (.ref a) (.dict []) (a :: [] ++ []) := Reads.dict ho hx.1 hdat (by rw [he]; exact .nil) (by rw [he]; exact .nil)
    exact repr_of_reads' rd (by decide) (fun _ => by simpa using Ne.symm (sys_ne hs)) hG (by show _ + (1 + 1) < _; omega) (fun _ _ z => z) fin (by decide +kernel)
  | @d1 a t x e' n ha hsc hr hn ht =>
    subst e
    rw [Vals.ref1 r]
    have hts := RepOk.tok ht
    have hsh : (PyData.dict [(.str t, e')]).showable = true := by
      simp [PyData.showable, PyData.showableKv, hr.sh]
    have hdp : (PyData.dict [(.str t, e')]).depth ≤ 1 := by
      have := hr.dp
      simp [PyData.depth, PyData.depthKv]
      omega
    have hlen : (PyData.dict [(.str t, e')]).shown.length ≤ sizeLine := by
      have l1 := shown_short hr hn
      have l2 := shown_short hts (by decide)
      rw [PyData.shown_dict]
      simp only [PyData.shownKv, Str.join]
      simp only [str_app]
      have c1 : ("{" : Str).length = 1 := by decide +kernel
      have c2 : ("}" : Str).length = 1 := by decide +kernel
      have c3 : (": " : Str).length = 2 := by decide +kernel
      rw [c1, c2, c3, sizeLine_eq]
      omega
    have fin : ∀ (h' : Heap) (u : Tok) (tk : Nat), (∀ b o, s.heap.get? b = some o → h'.get? b = some o) → EP X pins σ Q (.str (PyData.dict [(.str t, e')]).shown u) { s with heap := h', toks := tk } :=
      fun h' u tk hk => ⟨.str (PyData.dict [(.str t, e')]).shown, H, I.un (Un.kept hk) (I.hok.kept hk), ⟨u, rfl⟩, q⟩
    obtain ⟨_, hs, vs, rel, o, es, ep, ho, hx, hdat, hk, hp, _⟩ := dk_of I.hok ha
    cases rel with
    | @cons _ qv _ _ r1 r2 =>
      cases r2
      obtain ⟨er, rx⟩ := r1
      generalize hes : es.toList = el at hp
      cases hp with
      | @cons en _ _ _ p1 p2 p3 =>
        cases p3
        obtain ⟨_, _, z, _⟩ | ⟨y, tk, z, ek⟩ := keyIs_shape p1
        · rw [← er] at z
          cases z
        · rw [← er] at z
          cases z
          have rv : Reads s.heap en.val e' [] := by
            rw [p2]
            cases hsc with
            | int i =>
              obtain ⟨tt, ee⟩ := (show ∃ tt, qv.2 = Value.int i tt from rx)
              rw [ee]
              exact .int i tt
            | str y =>
              obtain ⟨tt, ee⟩ := (show ∃ tt, qv.2 = Value.str y tt from rx)
              rw [ee]
              exact .str y tt
          have rk : Reads s.heap en.key (.str t) [] := by
            rw [ek]
            exact .str t tk
          have rd : Reads s.heap (.ref a) (.dict [(.str t, e')]) (a :: ([] ++ []) ++ ([] ++ [])) := Reads.dict ho hx.1 hdat (by rw [hes]; exact .cons rk .nil) (by rw [hes]; exact .cons rv .nil)
          exact repr_of_reads' rd hsh (fun _ => by simpa using Ne.symm (sys_ne hs)) hG (by omega) (fun _ _ z => z) fin hlen
/-! ### texts of numbers, letters -/
theorem int_tok {i : Int} {k : Nat} (h : i.natAbs < 2 ^ k) (hk : 0 < k) : TOk (k + 1) (toString i : String) := by
  refine ⟨?_, fun c hc => ?_⟩
  · have l : i.natAbs.log2 < k := by
      by_cases z : i.natAbs = 0
      · rw [z]
        have : Nat.log2 0 = 0 := by decide
        omega
      · exact (Nat.log2_lt z).mpr h
    have e := int_text_length_le (a := i) hk l
    have e2 : (Str.ofString (toString i)).length = (toString i).length := PySem.ofString_length _
    show (Str.ofString (toString i)).length ≤ k + 1
    omega
  · by_cases z : c ≠ 45 ∧ (c < 48 ∨ 57 < c)
    · exact absurd hc (int_text_free' c z i)
    · omega
def rStrOf : List V → Hp → VK → Prop := fun xs H Q => (∃ i, xs = [.int i] ∧ i.natAbs.log2 < 1920 ∧ Q (.str (toString i : String)) H) ∨ ∃ a, xs = [.str a] ∧ Q (.str a) H
theorem k_strOf {X : Cx} : CallR X (.type "str") rStrOf := by
  rintro pins s σ H xs us Q I r (h | h)
  · exact call_str_int pins s σ H xs us Q I r h
  · exact SkE.call_str_str pins s σ H xs us Q I r h
theorem k_repr4 (K : PySem.W.Frag) {X : Cx} (hG : X.A.guards = some []) (hu : X.A.units + 64 < cLine) (h : X.K = K := by rfl) : CallR X (.builtin "repr") (rRepr4 K) := by
  subst h
  exact call_repr4 hG hu
def CPowW (i j : Int) : Prop := 0 ≤ j ∧ ((Builtin.Int.intBits i : Nat) : Int) * j ≤ 134217728
theorem op_powW {X : Cx} : OpR X (binaryOp .Pow) (rI CPowW fun i j => .int (i ^ j.toNat)) := opI fun _ _ _ _ _ _ _ hc q => pow_int hc.1 hc.2 q
def letter (c : Nat) : Bool := decide (97 ≤ c) && decide (c ≤ 122)
theorem letter_not : ∀ c, c < 128 → (!(!(Builtin.Str.occurrences (Str.ofString "abcdefghijklmnopqrstuvwxyz") ⟨#[c]⟩ 0 (Str.ofString "abcdefghijklmnopqrstuvwxyz").length 1).isEmpty)) = !letter c := by decide +kernel
end RO

namespace RO
open PySem PySem.Spec PyProof.Rows L2

/-! ### set(xs), xs a list of numbers -/
/-- an empty set's object -/
def emptySet (w : World) : Obj := { cls := .type "set", dict := none, data := .set #[] 0 (.fresh 0 0 (!w.params.followText "set-order")) }
section
variable {P : Program} {w : World} {A : Around} {E : Value → Shared → Prop} {s : Shared}
/-- set(v): the empty set, and what its start makes of it -/
theorem set_call {v : Value} {Q : Value → Shared → Prop} {G : Shared → Prop}
    (start : wpAny (model P w) A.in1.in1 (Builtin.«set.__init__» ⟨[.ref s.heap.objs.size, v], []⟩)
      (fun fin s' => match fin with
        | .done f => wants (fun r s₂ => r = .none ∧ G s₂) E (.ok f) s'
        | .again c' => c'.quiet = true ∧ codeAny (model P w) A.in1 c' (wants (fun r s₂ => r = .none ∧ G s₂) E) s')
      (fun e s' => wants (fun r s₂ => r = .none ∧ G s₂) E (.error e) s') { s with heap := s.heap.push (emptySet w) })
    (fin : ∀ s', G s' → Q (.ref s.heap.objs.size) s') : wpAny (model P w) A (call (.type "set") [v]) Q E s := by
  have lk := F.called_set.init.lookup
  have bd := F.called_set.init.bind (.ref s.heap.objs.size)
  have nt := F.called_set.notType
  have cc := F.called_set.canCreate
  have tc := F.typeCall_set_1 v
  have md := F.called_set.made
  have sb := F.called_set.sub
  obtain ⟨c, tl, mro⟩ := F.called_set.mro
  refine wpAny_call (codeAny_of_tree ?_)
  show wpAny _ _ (callAny (.type "set") _) _ _ _
  refine wpAny_pure ⟨Code.quiet_builtin _ (by decide +kernel), codeAny_builtin F.entry_type_call ?_⟩
  rw [Around.under_plain (weight_type_call_type "set" [v] []) rfl]
  repeat (any_goals (first | assumption | wp_step))
  refine codeAny_mono (code_set_led1 v (E := E) (Q₁ := fun obj t => obj = .ref s.heap.objs.size ∧ t = { s with heap := s.heap.push (emptySet w) }) ⟨rfl, rfl⟩) fun r t hr => ?_
  cases r with
  | error e => exact hr
  | ok fl =>
    cases fl with
    | ret obj =>
      obtain ⟨rfl, rfl⟩ := hr
      have ty : Shared.TypeIs { s with heap := s.heap.push (emptySet w) } (.ref s.heap.objs.size) "set" := ⟨_, Heap.get?_push_size _ rfl, rfl⟩
      repeat (any_goals (first | assumption | wp_step))
      refine codeAny_mono (codeAny_call_builtin F.called_set.init.plain F.entry_set_init (check_set_init_1 ty start)) fun r2 t2 h2 => ?_
      cases r2 with
      | error e => exact h2
      | ok fl2 =>
        cases fl2 with
        | ret z =>
          obtain ⟨rfl, g⟩ := h2
          have q := fin _ g
          repeat (any_goals (first | assumption | wp_step))
        | _ => exact h2.elim
    | _ => exact hr.elim
/-- of a list of numbers -/
theorem set_ints {l : Addr} {items : Array Value} {ns : List Int} {Q : Value → Shared → Prop} (hh : A.handled = none) (hl : s.heap.IsList l items) (hit : IntsAre items.toList ns) (hb : ns.length + 1 < scanBound)
    (h : ∀ (h' : Heap) (tk n : Nat), SetR w h' s.heap.objs.size (fun j => decide (j ∈ ns)) n → n ≤ ns.length → (∀ b o, s.heap.get? b = some o → h'.get? b = some o) → Q (.ref s.heap.objs.size) { s with heap := h', toks := tk }) :
    wpAny (model P w) A (call (.type "set") [.ref l]) Q E s := by
  have size : items.size = ns.length := by
    rw [← Array.length_toList]
    exact IntsAre.length hit
  have vals : ∀ (i : Nat) (v : Value), items[i]? = some v → ∃ k t, ns[i]? = some k ∧ v = .int k t := fun i v hv => by
    have lt : i < ns.length := size ▸ (Array.getElem?_eq_some_iff.mp hv).1
    obtain ⟨t, e⟩ := IntsAre.int_at hit i v (by rw [Array.getElem?_toList]; exact hv)
    refine ⟨ns[i], t, List.getElem?_eq_getElem lt, ?_⟩
    rw [e, List.getD_eq_getElem?_getD, List.getElem?_eq_getElem lt]
    rfl
  refine set_call (G := fun s2 => ∃ h' tk n, s2 = { s with heap := h', toks := tk } ∧ SetR w h' s.heap.objs.size (fun j => decide (j ∈ ns)) n ∧ n ≤ ns.length ∧ ∀ b o, s.heap.get? b = some o → h'.get? b = some o) ?_ ?_
  · have l1 : (s.heap.push (emptySet w)).IsList l items := hl.push _
    have lS : l < s.heap.objs.size := by
      obtain ⟨_, e, _⟩ := hl
      exact Heap.lt_size e
    have z1 : (s.heap.push (emptySet w)).objs.size = s.heap.objs.size + 1 := Heap.size_push ..
    obtain ⟨⟨oc, od, odt, osl⟩, hol, hcl, nl, hdl⟩ := id l1
    simp only at hcl hdl
    subst hcl hdl
    have n1 := F.sub_list_set
    have n2 := F.sub_list_frozenset
    have n3 : (Value.type "list" == Value.type "dict") = false := by decide
    unfold Builtin.«set.__init__» noKeywords Builtin.Frozenset.updateFrom
    generalize hPI : pyIter = PI
    wp_walk
    subst hPI
    refine wpAny_pyIter_list l1 ?_
    refine wpAny_bind (wpAny_runValue ?_)
    have apart : l ≠ (s.heap.push (emptySet w)).objs.size := by
      rw [z1]
      exact Nat.ne_of_lt (Nat.lt_succ_of_lt lS)
    have S0 : (s.heap.push (emptySet w)).get? s.heap.objs.size = some (emptySet w) := Heap.get?_push_size _ rfl
    have out : s.heap.objs.size ∉ [(s.heap.push (emptySet w)).objs.size, l] := by
      simp only [List.mem_cons, List.not_mem_nil, or_false, not_or]
      exact ⟨by rw [z1]; exact Nat.ne_of_lt (Nat.lt_succ_self _), Nat.ne_of_gt lS⟩
    refine set_update_ints ((Walks.list (by simp [hh]) _ l apart items).toS) s.heap.objs.size out ns size hb vals (items.size - 0) 0 _ (by omega) (Nat.zero_le _)
      ⟨⟨_, Heap.get?_push_size _ rfl, rfl, rfl⟩, l1.push _⟩ ⟨0, Nat.le_refl 0, setR_new_at (Heap.get?_push_of_some _ S0)⟩ fun s3 n mv hn R => ?_
    obtain ⟨h', g', d', tk', o'⟩ := s3
    have e1 : g' = s.gens := mv.gens
    have e2 : d' = s.drawn := mv.drawn
    have e3 : o' = s.os := mv.os
    subst e1 e2 e3
    refine wpAny_pure (wpAny_pure ⟨rfl, h', tk', n, rfl, R, by omega, fun b o e => ?_⟩)
    have lt := Heap.lt_size e
    exact mv.heap b o (by simp only [List.mem_cons, List.not_mem_nil, or_false, not_or]; exact ⟨Nat.ne_of_lt lt, by rw [z1]; exact Nat.ne_of_lt (Nat.lt_succ_of_lt lt)⟩) (Heap.get?_push_of_some _ (Heap.get?_push_of_some _ e))
  · rintro s2 ⟨h', tk, n, rfl, R, hn, keep⟩
    exact h h' tk n R hn keep
end
section
variable {X : Cx}
/-- set(xs) by values -/
def rSetI (K : PySem.W.Frag) (w : World) : List V → Hp → VK → Prop := fun vs H Q => ∃ (a : Addr) (ns : List Int), vs = [V.ref a] ∧ SqL K H a (ns.map V.int) ∧ ns.length ≤ 1000 ∧
  ∀ p n, H p = none → n ≤ ns.length → Q (.ref p) (upd H p (SetO w p (fun j => decide (j ∈ ns)) n))
theorem cr_setI (hc : X.calm = true) : CallR X (.type "set") (rSetI X.K X.w) := by
  intro pins s σ H vs us Q I r h
  obtain ⟨a, ns, rfl, hs, hl, q⟩ := h
  obtain ⟨its, rv, p, hz⟩ := I.list hs
  rw [Vals.ref1 r]
  have lim : ns.length + 1 < scanBound := Nat.lt_of_le_of_lt (Nat.succ_le_succ hl) (by decide)
  refine set_ints (I.ok.hd hc) p.isList rv.ints lim fun h' tk n R hn keep => ?_
  have fresh : H s.heap.objs.size = none := I.hok.fresh (Nat.le_refl _)
  exact ⟨.ref _, _, I.laid (t' := tk) keep (Nat.le_refl _) (setO_new R), rfl, q _ n fresh hn⟩
end
end RO

namespace RO
open PySem PySem.Spec PyProof.Rows L2 PpSet

/-! ### {k for x in xs if ..}, k a number -/
section
variable {X : Cx}
/-- one turn's end: k joins the set at D -/
def Joins (w : World) (D : Addr) (Nx : Hp → Prop) : VK := fun y H => ∃ (k : Int) (S : Int → Bool) (n : Nat), y = .int k ∧ H D = some (SetO w D S n) ∧ n + 1 < scanBound ∧ Nx (upd H D (SetO w D (fun j => S j || decide (j = k)) (if S k = true then n else n + 1)))
def tScI (w : World) (wi : TI) (g : TG) (tt : TT) (te : TE) (vs : List Nat) : TE := fun σ H Q => wi σ H fun J H1 => ∀ D, H1 D = none → ∃ W : Nat → Nat → Hp → Prop, (∃ m, W 0 m (upd H1 D (SetO w D (fun _ => false) 0))) ∧ ∀ i m H, W i m H →
  (J.stop i H ∧ Q (.ref D) H) ∨ (J.go i H ∧ ∃ Nx : Hp → Prop, (∀ H', Nx H' → ∃ m', m' < m ∧ W (i + 1) m' H') ∧ ∀ x H', J.yld i H x H' → g x (wipe σ vs) H' fun σ2 H2 => wipe σ2 vs = wipe σ vs ∧ tt σ2 H2 fun b H3 =>
    if b = true then te σ2 H3 (Joins w D Nx) else Nx H3)
theorem pe_scI {elt tg iter : Expr} {ifs : List Expr} {scope : Scope} {own : List (PySem.Str × Nat)} {pos : Pos} {wi : TI} {g : TG} {tt : TT} {te : TE} (hc : X.calm = true) (hN : X.N.Nodup) (hi : PI X tg iter wi) (ok : BlkOk X.N X.env.scope scope own)
    (hg : ∀ (s : Shared) (H : Hp) (C : Addr) (cl : List (PySem.Str × Addr)) (fp : List Addr), PG (X.blk s H scope (compEnvC scope cl C X.env) fp) tg g)
    (ht : ∀ (s : Shared) (H : Hp) (C : Addr) (cl : List (PySem.Str × Addr)) (fp : List Addr), PTs (X.blk s H scope (compEnvC scope cl C X.env) fp) ifs tt)
    (he : ∀ (s : Shared) (H : Hp) (C : Addr) (cl : List (PySem.Str × Addr)) (fp : List Addr), PE (X.blk s H scope (compEnvC scope cl C X.env) fp) elt te) (hs : ∀ x, foldedSetIterable iter X.env x = pure x := by intro _; rfl) :
    PE X (.SetComp elt [⟨tg, iter, ifs, 0⟩] scope pos) (tScI X.w wi g tt te (own.map (·.2))) := by
  constructor
  intro pins s σ H Q I h
  rw [eval_SetComp]
  have cells : ∀ y ∈ scope.names, y.2 = .free → ∃ c, X.env.cells.lookup y.1 = some c := fun y hy e =>
    (ok.free y hy e).elim (fun k => I.ok.has _ (.inl k)) fun k => I.ok.has _ (.inr k)
  apply wpAny_comprehension_free (use := none) rfl hs (closure_ok cells) ok.kind (fun y hy e => by rw [ok.uniq y hy, e])
  apply thn (hi.run pins s σ H _ I h)
  intro xv s1 hx
  apply thn hx
  rintro _ s2 ⟨it, fp, tn, J, H2, rfl, I2, T, at2, free2, q⟩
  apply newSet_ok
  apply newEnv_comp
  have below : ∀ b ∈ fp, b < s2.heap.objs.size := fun b hb => (T.obj _ _ at2 b hb).elim fun o e => Heap.lt_size e.1
  have fresh : H2 s2.heap.objs.size = none := I2.hok.fresh (Nat.le_refl _)
  obtain ⟨W, ⟨m0, start⟩, turn⟩ := q _ fresh
  have I3 : Inv X pins σ (upd H2 s2.heap.objs.size (SetO X.w s2.heap.objs.size (fun _ => false) 0)) { s2 with heap := s2.heap.push (emptySet X.w) } :=
    I2.laid (t' := s2.toks) (fun _ _ e => Heap.get?_push_of_some _ e) (Nat.le_refl _) (setO_new (setR_fresh X.w))
  have at3 : tn 0 (s2.heap.push (emptySet X.w)) := T.keep _ _ _ at2 fun _ _ _ e => Heap.get?_push_of_some _ e
  have ok3 : ∀ b ∈ fp, FpOk X pins (upd H2 s2.heap.objs.size (SetO X.w s2.heap.objs.size (fun _ => false) 0)) b ∧ b < (s2.heap.push (emptySet X.w)).objs.size := fun b hb =>
    ⟨⟨by rw [upd_ne (Nat.ne_of_lt (below b hb))]; exact (free2 b hb).1, (free2 b hb).2⟩, by rw [Heap.size_push]; exact Nat.lt_succ_of_lt (below b hb)⟩
  generalize s2.heap.objs.size = D at *
  generalize upd H2 D (SetO X.w D (fun _ => false) 0) = H3 at *
  suffices key : ∀ s3 : Shared, s3 = { s2 with heap := s2.heap.push (emptySet X.w) } →
      codeAny (model X.prog X.w) X.A (.compStart (.SetComp elt [⟨tg, iter, ifs, 0⟩] scope pos) 0 (.ref it) (.ref D) (compEnvC scope (cellsFrom (s3.heap.objs.size + 1) scope.names (cloFrom X.env.cells scope.names [])) s3.heap.objs.size X.env))
        (compPost (model X.prog X.w) X.A X.xe none (EP X pins σ Q) (.ref D) s3.heap.objs.size) { s3 with heap := pushCells (s3.heap.push { cls := .type "dict", data := .dict #[] }) scope.names } from key _ rfl
  intro s3 es3
  have eh : s3.heap = s2.heap.push (emptySet X.w) := by rw [es3]
  rw [← eh] at at3 ok3
  rw [← es3] at I3
  have I4 := block_start I3 ok hN ok3
  have pg := hg s3 H3 s3.heap.objs.size (cellsFrom (s3.heap.objs.size + 1) scope.names (cloFrom X.env.cells scope.names [])) fp
  have pt := ht s3 H3 s3.heap.objs.size (cellsFrom (s3.heap.objs.size + 1) scope.names (cloFrom X.env.cells scope.names [])) fp
  have pe := he s3 H3 s3.heap.objs.size (cellsFrom (s3.heap.objs.size + 1) scope.names (cloFrom X.env.cells scope.names [])) fp
  have locals : (compEnvC scope (cellsFrom (s3.heap.objs.size + 1) scope.names (cloFrom X.env.cells scope.names [])) s3.heap.objs.size X.env).locals = s3.heap.objs.size := rfl
  generalize compEnvC scope (cellsFrom (s3.heap.objs.size + 1) scope.names (cloFrom X.env.cells scope.names [])) s3.heap.objs.size X.env = ce at *
  have at4 : tn 0 ({ s3 with heap := pushCells (s3.heap.push { cls := .type "dict", data := .dict #[] }) scope.names } : Shared).heap := T.keep _ _ _ at3 fun b _ o e => pushCells_keeps _ _ _ _ (Heap.get?_push_of_some _ e)
  generalize ({ s3 with heap := pushCells (s3.heap.push { cls := .type "dict", data := .dict #[] }) scope.names } : Shared) = s4 at *
  let B := X.blk s3 H3 scope ce fp
  have stay : ∀ (σ' : L2.St) (H' : Hp) (s' : Shared), Inv B [] σ' H' s' → (∀ b ∈ fp, H' b = none) → ∀ b ∈ fp, FpOk B [] H' b := fun σ' H' s' J' free b hb =>
    ⟨free b hb, (J'.ok.exf b hb).1, J'.ok.exfs b hb, .inl hb, (J'.ok.exf b hb).2, fun p hp => nomatch (show p ∈ ([] : List (Addr × Obj)) from hp)⟩
  have loop : codeAny (model X.prog X.w) X.A (.compLoop (.SetComp elt [⟨tg, iter, ifs, 0⟩] scope pos) 0 (.ref it) (.ref D) ce) (compPost (model X.prog X.w) X.A X.xe none (EP X pins σ Q) (.ref D) s3.heap.objs.size) s4 := by
    refine compLoopS_any (fun n s' => ∃ i H', Inv B [] (wipe σ (own.map (·.2))) H' s' ∧ tn i s'.heap ∧ (∀ b ∈ fp, H' b = none) ∧ W i n H') ?_ m0 ⟨0, H3, I4, at4, fun b hb => (ok3 b hb).1.1, start⟩
    rintro n s5 ⟨i, H5, I5, at5, free5, w5⟩
    rcases turn i n H5 w5 with ⟨stop, fin⟩ | ⟨go, Nx, less, step⟩
    · apply thnF (T.done B rfl rfl rfl hc i [] s5 _ H5 (fun _ _ => False) I5 (stay _ _ _ I5 free5) at5 stop)
      rintro r s6 ⟨rfl, I6⟩
      have back : Inv X pins σ H5 s6 := I3.call' (ch := fp) I6.os I6.base I6.hok I6.bare fun b hb => ⟨(ok3 b hb).1.2.2.2.1, (ok3 b hb).1.2.1, (ok3 b hb).1.2.2.2.2.1, (ok3 b hb).1.2.2.2.2.2⟩
      have free : H5 s3.heap.objs.size = none := locals ▸ (show H5 ce.locals = none from I6.free)
      obtain ⟨m, hn, _⟩ := I6.loc
      have hn : s6.heap.Ns s3.heap.objs.size m := locals ▸ (show s6.heap.Ns ce.locals m from hn)
      obtain ⟨f0, f1, f2, f3, f4, f5⟩ := I3.fpOk (Nat.le_refl _) free
      exact ⟨m, hn, fun h'' sb => ⟨.ref D, H5, back.turned (t' := s6.toks) (fun b o hb e => (sb.2 b hb).trans e) f0 f1 f3 f4 f5, rfl, fin⟩⟩
    · apply thnF (T.item B rfl rfl rfl hc i [] s5 _ H5 (fun _ _ => False) I5 (stay _ _ _ I5 free5) at5 go)
      rintro r s6 ⟨u, rfl, h6⟩
      apply thnF h6
      rintro _ s7 ⟨x, H7, I7, r7, y7, at7, free7⟩
      apply thnF (pg.run _ s7 _ H7 x u _ (I7.pinned (stay _ _ _ I7 free7) (T.obj _ _ at7)) r7 (step x H7 y7))
      rintro _ s8 ⟨σ8, H8, I8, wiped, q8⟩
      apply thnF (pt.run _ s8 σ8 H8 _ I8 q8)
      rintro b s9 ⟨H9, I9, q9⟩
      have next : ∀ (s' : Shared) (H' : Hp), Inv B ([] ++ pinsAt fp s7.heap) σ8 H' s' → Nx H' → ∃ m, m < n ∧ ∃ i H', Inv B [] (wipe σ (own.map (·.2))) H' s' ∧ tn i s'.heap ∧ (∀ b ∈ fp, H' b = none) ∧ W i m H' := fun s' H' J' nx => by
        obtain ⟨m', lt, w'⟩ := less H' nx
        have pin : ∀ b ∈ fp, ∀ o, s7.heap.get? b = some o → s'.heap.get? b = some o ∧ H' b = none := fun b hb o e =>
          have z := J'.pin (b, o) (List.mem_append_right _ (List.mem_append_right _ (mem_pinsAt hb e)))
          ⟨z.1, z.2.1⟩
        refine ⟨m', lt, i + 1, H', (J'.unpinned (pins := [])).weak (by rw [← wiped, wipe_length]) (fun j v e => ?_), T.keep _ _ _ at7 fun b hb o e => (pin b hb o e).1, fun b hb => ?_, w'⟩
        · rw [← wiped] at e
          exact (wipe_some e).1
        · obtain ⟨o, e, _⟩ := T.obj _ _ at7 b hb
          exact (pin b hb o e).2
      cases b with
      | false => exact next s9 H9 I9 q9
      | true =>
        apply thnF (pe.run _ s9 σ8 H9 _ I9 q9)
        rintro z s10 ⟨yv, H10, I10, r10, k, S, c, rfl, hD, room, nx⟩
        apply thnF (mt_sadd (X := B) _ s10 σ8 H10 (.ref D) [.int k] (.ref D) [z] (fun _ H' => Nx H') I10 rfl (.cons r10 .nil) ⟨D, k, S, c, rfl, rfl, hD, room, nx⟩)
        rintro _ s11 ⟨_, H11, I11, _, nx⟩
        exact next s11 H11 I11 nx
  exact codeAny_compStart_set loop (T.self X.A 0 _ _ _ at4 loop)
end
end RO

namespace RO
open PySem PySem.Spec PyProof.Rows L2
section
variable {J : It} {n : Nat} {G : Hp → Prop} {Y : Nat → Hp → V → Hp → Prop}
/-- a set's comprehension over what is walked: Pv by the turn and the heap -/
theorem sc_it {ww : World} (wk : Walk J n G Y) {g : TG} {tt : TT} {te : TE} {vs : List Nat} {σ : L2.St} {H1 : Hp} {D : Addr} {Qd : Hp → Prop} (Pv : Nat → Hp → Prop) (h0 : Pv 0 (upd H1 D (SetO ww D (fun _ => false) 0))) (hG : ∀ i H, i ≤ n → Pv i H → G H)
    (hs : ∀ i x H H', i < n → Pv i H → Y i H x H' → g x (wipe σ vs) H' fun σ2 H2 => wipe σ2 vs = wipe σ vs ∧ tt σ2 H2 fun b H3 => if b = true then te σ2 H3 (Joins ww D (Pv (i + 1))) else Pv (i + 1) H3) (hd : ∀ H, Pv n H → Qd H) :
    ∃ W : Nat → Nat → Hp → Prop, (∃ m, W 0 m (upd H1 D (SetO ww D (fun _ => false) 0))) ∧ ∀ i m H, W i m H →
      (J.stop i H ∧ Qd H) ∨ (J.go i H ∧ ∃ Nx : Hp → Prop, (∀ H', Nx H' → ∃ m', m' < m ∧ W (i + 1) m' H') ∧ ∀ x H', J.yld i H x H' → g x (wipe σ vs) H' fun σ2 H2 => wipe σ2 vs = wipe σ vs ∧ tt σ2 H2 fun b H3 =>
        if b = true then te σ2 H3 (Joins ww D Nx) else Nx H3) := by
  refine ⟨fun i m H => m = n - i ∧ i ≤ n ∧ Pv i H, ⟨n, by simp, Nat.zero_le _, h0⟩, ?_⟩
  rintro i m H ⟨rfl, le, p⟩
  have q := hG i H le p
  rcases Nat.lt_or_ge i n with lt | ge
  · exact .inr ⟨wk.goes i H lt q, Pv (i + 1), fun H' p' => ⟨n - (i + 1), by omega, rfl, lt, p'⟩, fun x H' y => hs i x H H' lt p (wk.yields i H x H' lt q y)⟩
  · obtain rfl : i = n := by omega
    exact .inl ⟨wk.stops H q, hd H p⟩
end
theorem k_setI (K : PySem.W.Frag) (ww : World) {X : Cx} (hc : X.calm = true) (h : X.K = K := by rfl) (h2 : X.w = ww := by rfl) : CallR X (.type "set") (rSetI K ww) := by
  subst h h2
  exact cr_setI hc
theorem k_sortedSet (ww : World) {X : Cx} (hc : X.calm = true) (h2 : X.w = ww := by rfl) : CallR X (.builtin "sorted") (rSortedSet ww) := by
  subst h2
  exact cr_sortedSet hc
theorem asc_ext : ∀ {a b : List Int}, a.Pairwise (· < ·) → b.Pairwise (· < ·) → (∀ k, k ∈ a ↔ k ∈ b) → a = b
  | [], [], _, _, _ => rfl
  | [], y :: b, _, _, h => nomatch (h y).mpr (List.mem_cons_self ..)
  | x :: a, [], _, _, h => nomatch (h x).mp (List.mem_cons_self ..)
  | x :: a, y :: b, ha, hb, h => by
    obtain ⟨a1, a2⟩ := List.pairwise_cons.mp ha
    obtain ⟨b1, b2⟩ := List.pairwise_cons.mp hb
    have e : x = y := by
      rcases List.mem_cons.mp ((h x).mp (List.mem_cons_self ..)) with q | q
      · exact q
      · rcases List.mem_cons.mp ((h y).mpr (List.mem_cons_self ..)) with z | z
        · exact z.symm
        · have := b1 x q
          have := a1 y z
          omega
    subst e
    refine congrArg (x :: ·) (asc_ext a2 b2 fun k => ⟨fun hk => ?_, fun hk => ?_⟩)
    · rcases List.mem_cons.mp ((h k).mp (List.mem_cons_of_mem _ hk)) with q | q
      · have := a1 k hk
        omega
      · exact q
    · rcases List.mem_cons.mp ((h k).mpr (List.mem_cons_of_mem _ hk)) with q | q
      · have := b1 k hk
        omega
      · exact q
end RO

namespace RO
open PySem PySem.Spec PyProof.Rows L2
/-! ### tuples put together and cut, whatever their lengths -/
/-- x + y, two tuples: a tuple of both, new or one of them -/
def rCatU (K : PySem.W.Frag) : R2 := fun x y H Q => ∃ a b xs ys, x = .ref a ∧ y = .ref b ∧ SqT K H a xs ∧ SqT K H b ys ∧ xs.length + ys.length ≤ sizeLine ∧ ∀ q H', Same H H' → SqT K H' q (xs ++ ys) → Q (.ref q) H'
theorem k_catU (K : PySem.W.Frag) {X : Cx} (h : X.K = K := by rfl) : OpR X (binaryOp .Add) (rCatU K) := by
  subst h
  rintro pins s σ H x y v u Q I rx ry ⟨a, b, xs, ys, rfl, rfl, ha, hb, hz, q⟩
  by_cases hx : xs = []
  · subst hx
    cases rx
    cases ry
    obtain ⟨its, r1, p1, _⟩ := I.tuple ha
    obtain ⟨its2, r2, p2, _⟩ := I.tuple hb
    cases r1
    exact cat_tup0 p1 p2 ⟨.ref b, H, I, rfl, q b H (Same.refl _) hb⟩
  · refine op_catT pins s σ H (.ref a) (.ref b) v u Q I rx ry ⟨a, b, xs, ys, rfl, rfl, ha, hb, hx, hz, fun e => ?_, fun _ p hp => ?_⟩
    · subst e
      exact q a H (Same.refl _) (by rw [List.append_nil]; exact ha)
    · exact q p _ (same_new (Same.refl _) hp) (SqT.of upd_same)
/-- x[lo:hi], x a tuple: a tuple, new or itself -/
def rSlU (K : PySem.W.Frag) : V → Option Int → Option Int → Hp → VK → Prop := fun x lo hi H Q => ∃ a xs, x = .ref a ∧ SqT K H a xs ∧ ∀ q H', Same H H' → SqT K H' q (cutV xs lo hi) → Q (.ref q) H'
theorem k_slU (K : PySem.W.Frag) {X : Cx} (h : X.K = K := by rfl) : SlR X (rSlU K) := by
  subst h
  rintro pins s σ H x v vl vu lo hi sl Q I rx hs pl pu ⟨a, xs, rfl, ha, q⟩
  refine sl_tupA pins s σ H (.ref a) v vl vu lo hi sl Q I rx hs pl pu ⟨a, xs, rfl, ha, fun z => ?_, fun z p hp => ?_⟩
  · refine q a H (Same.refl _) ?_
    have e : cutV xs lo hi = xs := by
      unfold cutV
      rw [z.1, z.2, List.drop_zero, Nat.sub_zero, List.take_length]
    rw [e]
    exact ha
  · exact q p _ (same_new (Same.refl _) hp) (SqT.of upd_same)
theorem k_max (K : PySem.W.Frag) {X : Cx} (hc : X.calm = true) (h : X.K = K := by rfl) : CallR X (.builtin "max") (rMax K) := by
  subst h
  exact cr_max hc
end RO

namespace RO
/-! ### sums over stretches of whole numbers, forward and back -/
def nsum (f : Int → Int) : Nat → Int
  | 0 => 0
  | n + 1 => nsum f n + f n
def zsum (f : Int → Int) : Int → Int
  | .ofNat n => nsum f n
  | .negSucc n => - nsum (fun i => f (-i - 1)) (n + 1)
theorem zsum_nat (f : Int → Int) (n : Nat) : zsum f (n : Int) = nsum f n := rfl
theorem zsum_0 (f : Int → Int) : zsum f 0 = 0 := rfl
theorem zsum_succ (f : Int → Int) (n : Int) : zsum f (n + 1) = zsum f n + f n := by
  cases n with
  | ofNat n => rfl
  | negSucc n =>
    cases n with
    | zero =>
      show (0 : Int) = - (0 + f (-((0 : Nat) : Int) - 1)) + f (-1)
      have e : (-((0 : Nat) : Int) - 1) = -1 := rfl
      rw [e]
      omega
    | succ k =>
      show - nsum (fun i => f (-i - 1)) (k + 1) = - (nsum (fun i => f (-i - 1)) (k + 1) + f (-((k + 1 : Nat) : Int) - 1)) + f (Int.negSucc (k + 1))
      have e : (-((k + 1 : Nat) : Int) - 1) = Int.negSucc (k + 1) := by omega
      rw [e]
      omega
theorem zsum_uniq {f g : Int → Int} (h0 : g 0 = 0) (h : ∀ n, g (n + 1) = g n + f n) (n : Int) : g n = zsum f n := by
  have up : ∀ k : Nat, g (k : Int) = zsum f (k : Int) := by
    intro k
    induction k with
    | zero => exact h0
    | succ i ih => rw [show ((i + 1 : Nat) : Int) = (i : Int) + 1 from rfl, h, ih, zsum_succ]
  have down : ∀ k : Nat, g (-(k : Int)) = zsum f (-(k : Int)) := by
    intro k
    induction k with
    | zero => exact h0
    | succ i ih =>
      have a := h (-(i : Int) - 1)
      have b := zsum_succ f (-(i : Int) - 1)
      have e : -(i : Int) - 1 + 1 = -(i : Int) := by omega
      have e2 : -((i + 1 : Nat) : Int) = -(i : Int) - 1 := by omega
      rw [e] at a b
      rw [e2]
      omega
  rcases Int.natAbs_eq n with e | e
  · rw [e]; exact up _
  · rw [e]; exact down _
theorem zsum_congr {f g : Int → Int} (h : ∀ i, f i = g i) (n : Int) : zsum f n = zsum g n :=
  zsum_uniq (zsum_0 f) (fun i => by rw [zsum_succ, h]) n
theorem zsum_add (f : Int → Int) (a b : Int) : zsum f (a + b) = zsum f a + zsum (fun i => f (a + i)) b := by
  have h := zsum_uniq (f := fun i => f (a + i)) (g := fun i => zsum f (a + i) - zsum f a) (by show zsum f (a + 0) - _ = _; rw [Int.add_zero]; omega)
    (fun n => by show zsum f (a + (n + 1)) - _ = zsum f (a + n) - _ + f (a + n); rw [← Int.add_assoc, zsum_succ]; omega) b
  have h : zsum f (a + b) - zsum f a = _ := h
  omega
theorem zsum_neg (f : Int → Int) (n : Int) : zsum (fun i => - f i) n = - zsum f n :=
  (zsum_uniq (f := fun i => - f i) (g := fun i => - zsum f i) (by show - zsum f 0 = 0; rw [zsum_0]; rfl) (fun i => by show - zsum f (i + 1) = - zsum f i + - f i; rw [zsum_succ]; omega) n).symm
theorem zsum_const (c n : Int) : zsum (fun _ => c) n = n * c :=
  (zsum_uniq (f := fun _ => c) (g := fun i => i * c) (Int.zero_mul c) (fun i => by show (i + 1) * c = i * c + c; rw [Int.add_mul, Int.one_mul]) n).symm
/-- what is told by rounds is the sum -/
theorem rounds_sum {f : Int → Int} {m : Int} (hm : 0 < m) (per : ∀ i, f (i + m) = f i) (n : Int) : n / m * nsum f m.toNat + nsum f (n % m).toNat = zsum f n := by
  have perk : ∀ (k : Nat) (i : Int), f (i + m * k) = f i := by
    intro k
    induction k with
    | zero => intro i; rw [show i + m * ((0 : Nat) : Int) = i by rw [Int.natCast_zero, Int.mul_zero, Int.add_zero]]
    | succ k ih => intro i; rw [show i + m * ((k + 1 : Nat) : Int) = (i + m * (k : Int)) + m by rw [Int.natCast_add, Int.mul_add]; omega, per, ih]
  have perz : ∀ (q i : Int), f (i + m * q) = f i := by
    intro q i
    cases q with
    | ofNat k => exact perk k i
    | negSucc k =>
      have h := perk (k + 1) (i + m * Int.negSucc k)
      have e : i + m * Int.negSucc k + m * ((k + 1 : Nat) : Int) = i := by
        rw [Int.add_assoc, ← Int.mul_add, show Int.negSucc k + ((k + 1 : Nat) : Int) = 0 by omega, Int.mul_zero, Int.add_zero]
      rw [e] at h
      exact h.symm
  refine zsum_uniq (f := f) (g := fun n => n / m * nsum f m.toNat + nsum f (n % m).toNat) ?_ (fun n => ?_) n
  · show 0 / m * _ + nsum f (0 % m).toNat = 0
    rw [Int.zero_ediv, Int.zero_emod, Int.zero_mul]
    rfl
  · show (n + 1) / m * nsum f m.toNat + nsum f ((n + 1) % m).toNat = n / m * nsum f m.toNat + nsum f (n % m).toNat + f n
    have r0 := Int.emod_nonneg n (show m ≠ 0 by omega)
    have r1 := Int.emod_lt_of_pos n hm
    have dm := Int.emod_add_mul_ediv n m
    have fn : f n = f (n % m) := by
      have h := perz (n / m) (n % m)
      rw [dm] at h
      exact h
    obtain ⟨k, hk⟩ := Int.eq_ofNat_of_zero_le r0
    by_cases c : n % m + 1 < m
    · have e1 : (n + 1) / m = n / m ∧ (n + 1) % m = n % m + 1 := by
        rw [Int.ediv_emod_unique hm]
        refine ⟨?_, by omega, c⟩
        omega
      rw [e1.1, e1.2, fn, hk]
      show _ + (nsum f k + f k) = _ + nsum f k + f k
      omega
    · have e1 : (n + 1) / m = n / m + 1 ∧ (n + 1) % m = 0 := by
        rw [Int.ediv_emod_unique hm]
        refine ⟨?_, by omega, hm⟩
        rw [Int.mul_add]
        omega
      have em : m.toNat = k + 1 := by omega
      rw [e1.1, e1.2, fn, hk, em]
      show (n / m + 1) * (nsum f k + f k) + 0 = n / m * (nsum f k + f k) + nsum f k + f k
      rw [Int.add_mul, Int.one_mul]
      omega
/-- a whole round is added as often as it is gone -/
theorem zsum_rounds {f : Int → Int} {m : Int} (per : ∀ i, f (i + m) = f i) (a q : Int) : zsum f (a + q * m) = zsum f a + q * (zsum f (a + m) - zsum f a) := by
  have shift : ∀ n, zsum f (n + m) - zsum f n = zsum f m := by
    intro n
    have h := zsum_uniq (f := f) (g := fun n => zsum f (n + m) - zsum f m) (by show zsum f (0 + m) - _ = 0; rw [Int.zero_add]; omega)
      (fun n => by show zsum f (n + 1 + m) - _ = zsum f (n + m) - _ + f n; rw [show n + 1 + m = n + m + 1 by omega, zsum_succ, per]; omega) n
    have h : zsum f (n + m) - zsum f m = zsum f n := h
    omega
  have h : ∀ q : Int, zsum f (a + q * m) - zsum f a = zsum (fun _ => zsum f m) q := by
    intro q
    refine zsum_uniq (f := fun _ => zsum f m) (g := fun q => zsum f (a + q * m) - zsum f a) ?_ (fun q => ?_) q
    · show zsum f (a + 0 * m) - _ = 0
      rw [Int.zero_mul, Int.add_zero]
      omega
    · show zsum f (a + (q + 1) * m) - _ = zsum f (a + q * m) - _ + zsum f m
      have e : a + (q + 1) * m = a + q * m + m := by rw [Int.add_mul, Int.one_mul]; omega
      have := shift (a + q * m)
      rw [e]
      omega
  have h1 := h q
  rw [zsum_const] at h1
  rw [shift a]
  omega
/-! ### headings -/
/-- the number of the heading of a swing -/
def hdg (s p : Int) : Int := s / p % 8
def hxs : List Int := [0, 1, 1, 1, 0, -1, -1, -1]
def hys : List Int := [1, 1, 0, -1, -1, -1, 0, 1]
def dx (s p : Int) : Int := hxs.getD (hdg s p).toNat 0
def dy (s p : Int) : Int := hys.getD (hdg s p).toNat 0
theorem hdg_range (s p : Int) : 0 ≤ hdg s p ∧ hdg s p < 8 := ⟨Int.emod_nonneg _ (by decide), Int.emod_lt_of_pos _ (by decide)⟩
theorem hdg_per {p : Int} (hp : 0 < p) (s k : Int) : hdg (s + 8 * p * k) p = hdg s p := by
  unfold hdg
  rw [show s + 8 * p * k = s + p * (8 * k) by rw [Int.mul_comm 8 p, Int.mul_assoc], Int.add_mul_ediv_left _ _ (by omega), Int.add_mul_emod_self_left]
theorem dx_per {p : Int} (hp : 0 < p) (s k : Int) : dx (s + 8 * p * k) p = dx s p := by unfold dx; rw [hdg_per hp]
theorem dy_per {p : Int} (hp : 0 < p) (s k : Int) : dy (s + 8 * p * k) p = dy s p := by unfold dy; rw [hdg_per hp]
/-- the minutes of a round -/
def roundOf (v p : Int) : Int := 8 * p / ((Nat.gcd v.natAbs (8 * p).natAbs : Nat) : Int)
theorem roundOf_spec {p : Int} (hp : 0 < p) (v : Int) : 0 < roundOf v p ∧ roundOf v p ≤ 8 * p ∧ ∃ k, roundOf v p * v = 8 * p * k := by
  have hc : 0 < 8 * p := by omega
  have g0 : 0 < Nat.gcd v.natAbs (8 * p).natAbs := Nat.gcd_pos_of_pos_right _ (by omega)
  obtain ⟨a, ha⟩ := Nat.gcd_dvd_left v.natAbs (8 * p).natAbs
  obtain ⟨b, hb⟩ := Nat.gcd_dvd_right v.natAbs (8 * p).natAbs
  unfold roundOf
  generalize Nat.gcd v.natAbs (8 * p).natAbs = g at *
  have eb : 8 * p = (g : Int) * (b : Int) := by rw [← Int.natCast_mul, ← hb]; omega
  have er : 8 * p / (g : Int) = (b : Int) := by rw [eb, Int.mul_ediv_cancel_left _ (by omega)]
  rw [er]
  have b0 : b ≠ 0 := fun z => by rw [z, Int.natCast_zero, Int.mul_zero] at eb; omega
  refine ⟨by omega, ?_, ?_⟩
  · rw [eb]
    have : b ≤ g * b := Nat.le_mul_of_pos_left b g0
    rw [← Int.natCast_mul]
    omega
  · obtain ⟨va, hva⟩ : ∃ va : Int, v = (g : Int) * va := by
      rcases Int.natAbs_eq v with z | z
      · exact ⟨a, by rw [z, ha, Int.natCast_mul]⟩
      · exact ⟨-a, by rw [z, ha, Int.natCast_mul, Int.mul_neg]⟩
    refine ⟨va, ?_⟩
    rw [eb, hva, ← Int.mul_assoc, Int.mul_comm (b : Int) (g : Int)]
theorem round_per {h : Int → Int → Int} {p : Int} (hp : 0 < p) (per : ∀ s k, h (s + 8 * p * k) p = h s p) (s v i : Int) : h (s + (i + roundOf v p) * v) p = h (s + i * v) p := by
  obtain ⟨k, hk⟩ := (roundOf_spec hp v).2.2
  rw [show s + (i + roundOf v p) * v = s + i * v + 8 * p * k by rw [Int.add_mul, hk]; omega, per]
/-- where she is: x, y, swing -/
structure Boat where
  x : Int
  y : Int
  s : Int
def sailed (b : Boat) (port star n p : Int) : Boat :=
  ⟨b.x + (port + star) * zsum (fun i => dx (b.s + i * (port - star)) p) n, b.y + (port + star) * zsum (fun i => dy (b.s + i * (port - star)) p) n, b.s + n * (port - star)⟩
theorem sailed_0 (b : Boat) (port star p : Int) : sailed b port star 0 p = b := by
  unfold sailed
  rw [zsum_0, zsum_0, Int.mul_zero, Int.zero_mul, Int.add_zero, Int.add_zero, Int.add_zero]
/-- in pieces -/
theorem sailed_add (b : Boat) (port star m n p : Int) : sailed (sailed b port star m p) port star n p = sailed b port star (m + n) p := by
  unfold sailed
  have e : ∀ i : Int, b.s + m * (port - star) + i * (port - star) = b.s + (m + i) * (port - star) := fun i => by rw [Int.add_mul]; omega
  simp only [e]
  rw [zsum_add _ m n, zsum_add _ m n, Int.mul_add, Int.mul_add, Int.add_assoc, Int.add_assoc]
end RO

namespace RO
open PySem PySem.Spec PyProof.Rows L2 RZ
/-! ### zip of two lists or two tuples, K said -/
theorem k_piZip (K : PySem.W.Frag) {X : Cx} {e e2 : Expr} {ta : TA} {p pos tpos : Pos} {elts : List Expr} {kk : Nat} (hg : Gl X "zip") (hm : X.mg "zip" = none) (ha : PA X [e, e2] ta)
    (hs : starEach [e, e2] X.env = (false, eval e X.env) :: starEach [e2] X.env := by rfl) (hpl : (backTo pos (starEach [e2] X.env)).any (·.1) = false := by rfl) (hK : X.K = K := by rfl) :
    PI X (.Tuple elts kk tpos) (.Call (.Name "zip" p) [e, e2] [] pos) (iZipA K ta) := by
  subst hK
  exact pi_zipA hg hm ha hs hpl
theorem walk_zipT {K : PySem.W.Frag} {a b : Addr} {xs ys : List V} {n : Nat} (hn : n = min xs.length ys.length) : Walk (ItzT K a b) n (fun H => SqT K H a xs ∧ SqT K H b ys) (YPair (fun i => xs[i]?) (fun i => ys[i]?)) := by
  subst hn
  refine ⟨fun i _ hi q => ?_, fun _ q => ⟨xs, ys, q.1, q.2, by omega⟩, fun i H v H' _ q y => ?_⟩
  · have h1 : i < xs.length := by omega
    have h2 : i < ys.length := by omega
    exact ⟨xs, ys, xs[i], ys[i], q.1, q.2, by simp [h1], by simp [h2]⟩
  · obtain ⟨T, x, z, h1, h2, h3, h4, h5⟩ := y
    exact ⟨T, x, z, h1, h2, h3, h4 xs q.1, h5 ys q.2⟩
end RO

namespace PySem.F
theorem zip_no_len : typeLookup (.type "zip") "__len__" = pure none := am_miss_of_fast (by decide +kernel)
theorem zip_no_hint : typeLookup (.type "zip") "__length_hint__" = pure none := am_miss_of_fast (by decide +kernel)
end PySem.F
namespace RO
open PySem PySem.Spec PyProof.Rows L2
/-! ### list(zip(xs, ys)), two lists -/
/-- zip at its turn i, as list(..) walks it; S the list that is made -/
def ZAt (l1 l2 z TI TO i1 i2 S : Addr) (i : Nat) (h : Heap) : Prop :=
  (∀ c ∈ [z, TI, TO, i1, i2], c < h.objs.size) ∧ IsPair h TI (.ref i1) (.ref i2) ∧ h.IsListIter i1 l1 i ∧ h.IsListIter i2 l2 i ∧
  ((IsZip h z TI TO .none ∧ ∃ a b, IsPair h TO a b) ∨ ∃ T f oT, IsZipHeld h z TI TO T f ∧ h.get? T = some oT ∧ T ≠ z ∧ T ≠ i1 ∧ T ≠ i2 ∧ T ≠ S)
def Pairs (H : Hp) (xs ys : List V) (S : Addr) (ps : List Addr) : Prop := ∀ (j : Nat) (p : Addr), ps[j]? = some p → p ≠ S ∧ ∃ x y, xs[j]? = some x ∧ ys[j]? = some y ∧ H p = some (.tup [x, y])
theorem fp_stat {X : Cx} {pins : List (Addr × Obj)} {H H' : Hp} {b : Addr} (h : FpOk X pins H b) (hn : H' b = none) : FpOk X pins H' b := ⟨hn, h.2⟩
section
variable {X : Cx} {pins : List (Addr × Obj)} {σ : L2.St} {l1 l2 z TI TO i1 i2 S : Addr} {xs ys : List V} {R : Result → Shared → Prop} {res : Value} {A : Around}
theorem zip_loop (hA : A.handled = none) (D : ZipApart z TI TO i1 i2 l1 l2) (hS : S ∉ [z, TI, TO, i1, i2]) (H0 : Hp) (hl : min xs.length ys.length ≤ sizeLine) :
    ∀ (k i : Nat) (s : Shared) (H : Hp) (ps : List Addr), min xs.length ys.length - i = k → i ≤ min xs.length ys.length → Inv X pins σ H s → (∀ b ∈ [z, TI, TO, i1, i2], FpOk X pins H b) → ZAt l1 l2 z TI TO i1 i2 S i s.heap →
    SqL X.K H l1 xs → SqL X.K H l2 ys → l1 ≠ S → l2 ≠ S → But S H0 H → H S = some (.lst (ps.map V.ref)) → ps.length = i → Pairs H xs ys S ps →
    (∀ H' s' ps', Inv X pins σ H' s' → But S H0 H' → H' S = some (.lst (ps'.map V.ref)) → ps'.length = min xs.length ys.length → Pairs H' xs ys S ps' → R (.ok (.ret res)) s') →
    codeAny (model X.prog X.w) A (.builtin "list.extend.loop" ⟨[.ref S, .ref z, res], []⟩) R s := by
  intro k
  induction k with
  | zero =>
    intro i s H ps hk hi I hf st hq1 hq2 n1 n2 b0 eS lp hp hR
    have hin : i = min xs.length ys.length := by omega
    refine codeAny_builtin F.entry_extend_loop ?_
    rw [Around.under_plainId F.plain_extend_loop _]
    show wpAny _ A.in1 (pyNext (.ref z) >>= _) _ _ s
    obtain ⟨szs, hTI, h1, h2, hz⟩ := st
    obtain ⟨its, rv, p, _⟩ := I.list hq1
    obtain ⟨its2, rv2, p2, _⟩ := I.list hq2
    have e1 := rv.length
    have e2 := rv2.length
    have he : its.toArray[i]? = none ∨ its2.toArray[i]? = none := by
      rcases Nat.le_total xs.length ys.length with h | h
      · exact .inl (by simp; omega)
      · exact .inr (by simp; omega)
    have fin : ∀ h', (∀ c o, c ≠ z → c ≠ TO → c ≠ i1 → c ≠ i2 → s.heap.get? c = some o → h'.get? c = some o) → Inv X pins σ H { s with heap := h' } := fun h' hk =>
      I.turnedL (t' := s.toks) (ch := [z, TI, TO, i1, i2]) (fun c o hb q => hk c o (fun q' => hb (by simp [q'])) (fun q' => hb (by simp [q'])) (fun q' => hb (by simp [q'])) (fun q' => hb (by simp [q'])) q) hf
    rcases hz with ⟨hz, a, b, hTO⟩ | ⟨T, f, oT, hz, hT, r1, r2, r3, r4⟩
    · refine wpAny_bind (wpAny_pyNext_zip_end (A := A.in1) hA D hz hTI hTO h1 h2 p.isList p2.isList he fun h' hk => ?_)
      exact wpAny_pure (hR H _ ps (fin h' hk) b0 eS (by omega) hp)
    · refine wpAny_bind (wpAny_pyNext_zip_end_held (A := A.in1) hA D hz hT hTI h1 h2 p.isList p2.isList he fun h' hk => ?_)
      exact wpAny_pure (hR H _ ps (fin h' fun c o q1 q2 q3 q4 => hk c o q1 q3 q4) b0 eS (by omega) hp)
  | succ k ih =>
    intro i s H ps hk hi I hf st hq1 hq2 n1 n2 b0 eS lp hp hR
    have hlt : i < min xs.length ys.length := by omega
    refine codeAny_builtin F.entry_extend_loop ?_
    rw [Around.under_plainId F.plain_extend_loop _]
    show wpAny _ A.in1 (pyNext (.ref z) >>= _) _ _ s
    obtain ⟨szs, hTI, h1, h2, hz⟩ := st
    obtain ⟨its, rv, p, _⟩ := I.list hq1
    obtain ⟨its2, rv2, p2, _⟩ := I.list hq2
    obtain ⟨x, hx⟩ : ∃ x, xs[i]? = some x := ⟨_, List.getElem?_eq_getElem (by omega)⟩
    obtain ⟨y, hy⟩ : ∃ y, ys[i]? = some y := ⟨_, List.getElem?_eq_getElem (by omega)⟩
    obtain ⟨u, hu, ru⟩ := rv.get hx
    obtain ⟨u2, hu2, ru2⟩ := rv2.get hy
    have hzl : z < s.heap.objs.size := by
      rcases hz with ⟨hz, _⟩ | ⟨_, _, _, hz, _⟩ <;> exact Heap.lt_size hz
    have lt : ∀ {c o}, s.heap.get? c = some o → s.heap.objs.size ≠ c := fun e => Nat.ne_of_gt (Heap.lt_size e)
    have m1 : s.heap.objs.size ≠ i1 := let ⟨_, e, _⟩ := h1; lt e
    have m2 : s.heap.objs.size ≠ i2 := let ⟨_, e, _⟩ := h2; lt e
    have mz : s.heap.objs.size ≠ z := Nat.ne_of_gt hzl
    have hSs : s.heap.objs.size ≠ S := fun e => by
      have := I.hok.fresh (Nat.le_refl s.heap.objs.size)
      rw [e, eS] at this
      cases this
    have hlz : s.heap.objs.size ≠ TI := lt hTI
    have fpT : ∀ c ∈ [z, TI, TO, i1, i2], c ≠ s.heap.objs.size := fun c hc => Nat.ne_of_lt (szs c hc)
    -- what is put behind
    have put : ∀ (h' : Heap), h'.objs.size = s.heap.objs.size + 1 → (∀ c o, c ≠ z → c ≠ TO → c ≠ i1 → c ≠ i2 → s.heap.get? c = some o → h'.get? c = some o) → IsPair h' s.heap.objs.size u u2 → h'.IsListIter i1 l1 (i + 1) → h'.IsListIter i2 l2 (i + 1) →
        ((IsZip h' z TI TO .none ∧ ∃ a b, IsPair h' TO a b) ∨ ∃ T f oT, IsZipHeld h' z TI TO T f ∧ h'.get? T = some oT ∧ T ≠ z ∧ T ≠ i1 ∧ T ≠ i2 ∧ T ≠ S) →
        wpAny (model X.prog X.w) A.in1 (updateSeq S (·.push (.ref s.heap.objs.size)) >>= fun _ => again (.builtin "list.extend.loop" ⟨[.ref S, .ref z, res], []⟩))
          (fun fin s' => match fin with | .done f => R (.ok f) s' | .again c' => c'.quiet = true ∧ codeAny (model X.prog X.w) A c' R s') (fun e s' => R (.error e) s') { s with heap := h' } := by
      intro h' hsz hk hT a3 a4 hz'
      have new : ObjOk X.prog X.w (upd H s.heap.objs.size (.tup [x, y])) h' s.heap.objs.size (.tup [x, y]) :=
        ⟨by show 2 ≤ sizeLine; decide, [u, u2], .cons ru (.cons ru2 .nil), ⟨_, hT, rfl, _, rfl⟩⟩
      have I1 : Inv X pins σ (upd H s.heap.objs.size (.tup [x, y])) { s with heap := h' } :=
        I.turnedNew (t' := s.toks) (ch := [z, TI, TO, i1, i2]) (fun c o hb q => hk c o (fun q' => hb (by simp [q'])) (fun q' => hb (by simp [q'])) (fun q' => hb (by simp [q'])) (fun q' => hb (by simp [q'])) q) hf (Nat.le_refl _) new
      have eS1 : (upd H s.heap.objs.size (.tup [x, y])) S = some (.lst (ps.map V.ref)) := (upd_ne (Ne.symm hSs)).trans eS
      obtain ⟨lz, its3, n3, rv3, _, hS3⟩ := I1.lstM eS1
      have e3 := rv3.length
      rw [List.length_map, lp] at e3
      have I2 := I1.lset (its' := its3 ++ [.ref s.heap.objs.size]) (f := fun a => a.push (.ref s.heap.objs.size)) (ys := ps.map V.ref ++ [V.ref s.heap.objs.size]) (t' := s.toks) eS1 hS3 (by simp) (rv3.append (.cons (show L2.RelV (V.ref s.heap.objs.size) (.ref s.heap.objs.size) from rfl) .nil)) (by rw [List.length_append, List.length_map, lp]; show i + 1 ≤ _; omega)
      have same1 : Same H (upd H s.heap.objs.size (.tup [x, y])) := same_new (Same.refl _) (I.hok.fresh (Nat.le_refl _))
      refine wpAny_bind ?_
      refine wpAny_updateSeq hS3 rfl (wpAny_pure ⟨plainId_quiet F.plain_extend_loop _, ih (i + 1) _ _ (ps ++ [s.heap.objs.size]) (by omega) hlt I2 (fun c hc => ?_) ⟨fun c hc => ?_, ?_, ?_, ?_, ?_⟩ ?_ ?_ n1 n2 ?_ ?_ ?_ ?_ hR⟩) ?_ ?_
      · have nS : c ≠ S := fun e => hS (e ▸ hc)
        exact fp_stat (hf c hc) (by rw [upd_ne nS, upd_ne (fpT c hc)]; exact (hf c hc).1)
      · rw [Heap.size_update, hsz]
        exact Nat.lt_succ_of_lt (szs c hc)
      · have nS : TI ≠ S := fun e => hS (by simp [← e])
        exact (Heap.get?_update_other _ _ (Ne.symm nS)).trans (hk _ _ D.TIz D.TITO D.TIi1 D.TIi2 hTI)
      · exact a3.at fun o q => (Heap.get?_update_other _ _ (fun e => hS (by simp [e]))).trans q
      · exact a4.at fun o q => (Heap.get?_update_other _ _ (fun e => hS (by simp [e]))).trans q
      · rcases hz' with ⟨hz, a, b, hTO⟩ | ⟨T, f, oT, hz, hT, r1, r2, r3, r4⟩
        · exact .inl ⟨(Heap.get?_update_other _ _ (fun e => hS (by simp [e]))).trans hz, a, b, (Heap.get?_update_other _ _ (fun e => hS (by simp [e]))).trans hTO⟩
        · exact .inr ⟨T, f, oT, (Heap.get?_update_other _ _ (fun e => hS (by simp [e]))).trans hz, (Heap.get?_update_other _ _ (Ne.symm r4)).trans hT, r1, r2, r3, r4⟩
      · exact But.put.seqL n1 (same_seqL same1 hq1)
      · exact But.put.seqL n2 (same_seqL same1 hq2)
      · exact (b0.trans (But.of_same same1)).trans But.put
      · rw [upd_same, List.map_append]
        rfl
      · rw [List.length_append, lp]
        rfl
      · intro j p' hj
        by_cases cc : j < ps.length
        · rw [List.getElem?_append_left cc] at hj
          obtain ⟨q1, x', y', q2, q3, q4⟩ := hp j p' hj
          exact ⟨q1, x', y', q2, q3, (upd_ne q1).trans (same1 _ _ q4)⟩
        · have ej : j = i := by
            obtain ⟨z3, _⟩ := List.getElem?_eq_some_iff.mp hj
            rw [List.length_append] at z3
            have z3 : j < ps.length + 1 := z3
            omega
          subst ej
          rw [List.getElem?_append_right (by omega), lp, Nat.sub_self] at hj
          obtain rfl : s.heap.objs.size = p' := Option.some.inj hj
          exact ⟨hSs, x, y, hx, hy, (upd_ne hSs).trans upd_same⟩
      · rw [List.size_toArray]
        omega
      · show (its3.toArray.push _).size ≤ _
        rw [Array.size_push, List.size_toArray]
        omega
    rcases hz with ⟨hz, a, b, hTO⟩ | ⟨T, f, oT, hz, hT, r1, r2, r3, r4⟩
    · refine wpAny_bind (wpAny_pyNext_zip_item D hz hTI hTO h1 h2 p.isList p2.isList (x := u) (y := u2) (by simpa using hu) (by simpa using hu2) fun h' a1 a2 a3 a4 a5 a6 hk => ?_)
      exact put h' a6 hk a5 a3 a4 (.inr ⟨s.heap.objs.size, false, _, a1, a5, mz, m1, m2, hSs⟩)
    · refine wpAny_bind (wpAny_pyNext_zip_item_held D hz hT hTI h1 h2 p.isList p2.isList (x := u) (y := u2) (by simpa using hu) (by simpa using hu2) fun h' a1 a3 a4 a5 a6 hk => ?_)
      exact put h' a6 (fun c o q1 q2 q3 q4 => hk c o q1 q3 q4) a5 a3 a4 (.inr ⟨T, true, oT, a1, hk _ _ r1 r2 r3 hT, r1, r2, r3, r4⟩)
theorem zip_extend (hA : A.handled = none) (D : ZipApart z TI TO i1 i2 l1 l2) (hS : S ∉ [z, TI, TO, i1, i2]) (H0 : Hp) (hl : min xs.length ys.length ≤ sizeLine) (s : Shared) (H : Hp) (I : Inv X pins σ H s) (hf : ∀ b ∈ [z, TI, TO, i1, i2], FpOk X pins H b)
    (st : ZAt l1 l2 z TI TO i1 i2 S 0 s.heap) (hz : IsZip s.heap z TI TO .none) (hq1 : SqL X.K H l1 xs) (hq2 : SqL X.K H l2 ys) (n1 : l1 ≠ S) (n2 : l2 ≠ S) (b0 : But S H0 H) (eS : H S = some (.lst []))
    (hR : ∀ H' s' ps', Inv X pins σ H' s' → But S H0 H' → H' S = some (.lst (ps'.map V.ref)) → ps'.length = min xs.length ys.length → Pairs H' xs ys S ps' → R (.ok (.ret res)) s') :
    wpAny (model X.prog X.w) A.in1 (Builtin.List.listExtendWith (.ref S) (.ref z) res)
      (fun fin s' => match fin with | .done f => R (.ok f) s' | .again c' => c'.quiet = true ∧ codeAny (model X.prog X.w) A c' R s') (fun e s' => R (.error e) s') s := by
  have hT : s.TypeIs (.ref z) "zip" := ⟨_, hz, rfl⟩
  have hSz : S ≠ z := fun e => hS (by simp [e])
  obtain ⟨_, its0, n0, rv0, e0, hS0⟩ := I.lstM eS
  have e0 : its0 = [] := by
    cases its0 with
    | nil => rfl
    | cons a b => simp at e0
  subst e0
  unfold Builtin.List.listExtendWith
  refine wpAny_bind (wpAny_typeOf hT ?_)
  have h1 : Builtin.List.listSameRef (.ref S) (.ref z) = false := by simp [Builtin.List.listSameRef, hSz]
  have h2 : (Value.type "zip" == Value.type "list") = false := by decide
  have h3 : (Value.type "zip" == Value.type "tuple") = false := by decide
  simp only [h1, h2, h3, Bool.or_false, Bool.false_eq_true, if_false]
  refine wpAny_bind (wpAny_pyIter_zip hz ?_)
  refine wpAny_bind (wpAny_holding ?_)
  unfold Builtin.List.listLengthHint
  refine wpAny_bind (wpAny_specialOf hT F.zip_no_len ?_)
  show wpAny _ A.in1 (specialOf (Value.ref z) (Str.ofString "__length_hint__") >>= _) _ _ _
  refine wpAny_bind (wpAny_specialOf hT F.zip_no_hint ?_)
  refine wpAny_pure ?_
  show wpAny _ A.in1 (rule "list.extend.makes-room" >>= fun _ => Builtin.List.listTouch (.ref S) >>= fun _ =>
    again (.builtin "list.extend.loop" ⟨[.ref S, .ref z, res], []⟩)) _ _ _
  refine wpAny_bind (wpAny_rule ?_)
  refine wpAny_bind ?_
  show wpAny _ A.in1 (updateSeq S (·.push .none) >>= fun _ => updateSeq S (·.pop)) _ _ _
  refine wpAny_bind (wpAny_updateSeq hS0 rfl ?_)
  have hS2 := Heap.get?_update_self (Obj.mapSeq (·.push Value.none)) hS0 rfl
  refine wpAny_updateSeq (hz := by seq_fits) hS2 rfl ?_
  have hS3 := Heap.get?_update_self (Obj.mapSeq (·.pop)) hS2 rfl
  have oth : ∀ b o, b ≠ S → s.heap.get? b = some o → ((s.heap.update S (Obj.mapSeq (·.push Value.none))).update S (Obj.mapSeq (·.pop))).get? b = some o :=
    fun b o hb e => (Heap.get?_update_other _ _ (Ne.symm hb)).trans ((Heap.get?_update_other _ _ (Ne.symm hb)).trans e)
  have I3 : Inv X pins σ (upd H S (.lst [])) { s with heap := (s.heap.update S (Obj.mapSeq (·.push Value.none))).update S (Obj.mapSeq (·.pop)), toks := s.toks } :=
    I.write (x := S) (e := S) (by rw [eS]; exact trivial) (.inl rfl) oth ⟨_, hS3⟩ ⟨Nat.zero_le _, [], _, .nil, hS3⟩
  have hcell : ∀ c ∈ [z, TI, TO, i1, i2], c ≠ S := fun c hc e => hS (e ▸ hc)
  obtain ⟨szs, hTI, q1, q2, q3⟩ := st
  refine wpAny_pure ⟨plainId_quiet F.plain_extend_loop _, zip_loop hA D hS H0 hl _ 0 _ _ [] rfl (Nat.zero_le _) I3 (fun c hc' => fp_stat (hf c hc') (by rw [upd_ne (hcell c hc')]; exact (hf c hc').1)) ⟨fun c hc' => ?_, ?_, ?_, ?_, ?_⟩ (But.put.seqL n1 hq1) (But.put.seqL n2 hq2) n1 n2 (b0.trans But.put) upd_same rfl (fun j p hj => by simp at hj) hR⟩
  · rw [Heap.size_update, Heap.size_update]
    exact szs c hc'
  · exact oth _ _ (hcell _ (by simp)) hTI
  · exact q1.at fun o q => oth _ _ (hcell _ (by simp)) q
  · exact q2.at fun o q => oth _ _ (hcell _ (by simp)) q
  · rcases q3 with ⟨hz, a, b, hTO⟩ | ⟨T, f, oT, hz, hT, r1, r2, r3, r4⟩
    · exact .inl ⟨oth _ _ (hcell _ (by simp)) hz, a, b, oth _ _ (hcell _ (by simp)) hTO⟩
    · exact .inr ⟨T, f, oT, oth _ _ (hcell _ (by simp)) hz, oth _ _ r4 hT, r1, r2, r3, r4⟩
theorem call_list_zip {Q : VK} (hc : X.calm = true) (D : ZipApart z TI TO i1 i2 l1 l2) {s : Shared} {H : Hp} (I : Inv X pins σ H s) (hf : ∀ b ∈ [z, TI, TO, i1, i2], FpOk X pins H b)
    (szs : ∀ c ∈ [z, TI, TO, i1, i2], c < s.heap.objs.size) (hz : IsZip s.heap z TI TO .none) (hTI : IsPair s.heap TI (.ref i1) (.ref i2)) (hTO : ∃ a b, IsPair s.heap TO a b) (h1 : s.heap.IsListIter i1 l1 0) (h2 : s.heap.IsListIter i2 l2 0)
    (hq1 : SqL X.K H l1 xs) (hq2 : SqL X.K H l2 ys)
    (hQ : ∀ H' q ps, Same H H' → H q = none → H' q = some (.lst (ps.map V.ref)) → ps.length = min xs.length ys.length → Pairs H' xs ys q ps → Q (.ref q) H') :
    wpAny (model X.prog X.w) X.A (call (.type "list") [.ref z]) (EP X pins σ Q) X.xe s := by
  obtain ⟨its, rv, p1, zz1⟩ := I.list hq1
  obtain ⟨its2, rv2, p2, zz2⟩ := I.list hq2
  have hl : min xs.length ys.length ≤ sizeLine := Nat.le_trans (Nat.min_le_left ..) zz1
  have fr : H s.heap.objs.size = none := I.hok.fresh (Nat.le_refl _)
  have hS : s.heap.objs.size ∉ [z, TI, TO, i1, i2] := fun hm => Nat.lt_irrefl _ (szs _ hm)
  refine callType_codes (Q₁ := fun obj s₁ => obj = .ref s.heap.objs.size ∧ s₁ = { s with heap := s.heap.push { cls := .type "list", data := .seq #[] } }) F.called_list (F.typeCall_list_1 _) F.entry_list_init
    (code_list_new _ ⟨rfl, rfl⟩) fun obj s₁ h₁ => ?_
  obtain ⟨rfl, rfl⟩ := h₁
  have hSS : (s.heap.push { cls := .type "list", data := .seq #[] }).get? s.heap.objs.size = some { cls := .type "list", data := .seq #[] } := Heap.get?_push_size _ rfl
  refine ⟨⟨_, hSS, rfl⟩, F.args_list_init_2 _ _, ?_⟩
  have I1 : Inv X pins σ (upd H s.heap.objs.size (.lst [])) { s with heap := s.heap.push { cls := .type "list", data := .seq #[] }, toks := s.toks } := I.lnew (its := []) (ys := []) .nil (Nat.zero_le _)
  show wpAny _ X.A.in1.in1 (do let old ← Builtin.List.listItems (.ref s.heap.objs.size); Builtin.List.listUpdate (.ref s.heap.objs.size) (fun _ => #[]); letGo old.toList.reverse; Builtin.List.listExtendWith (.ref s.heap.objs.size) (.ref z) .none) _ _ _
  refine wpAny_bind ?_
  unfold Builtin.List.listItems
  refine wpAny_bind (wpAny_seqItems hSS rfl (wpAny_pure ?_))
  show wpAny _ X.A.in1.in1 (updateSeq s.heap.objs.size (fun _ => #[]) >>= fun _ => letGo (#[] : Array Value).toList.reverse >>= fun _ => Builtin.List.listExtendWith (.ref s.heap.objs.size) (.ref z) .none) _ _ _
  refine wpAny_bind (wpAny_updateSeq hSS rfl ?_)
  have hS2 := Heap.get?_update_self (Obj.mapSeq (fun _ => (#[] : Array Value))) hSS rfl
  have oth : ∀ b o, b ≠ s.heap.objs.size → s.heap.get? b = some o → ((s.heap.push { cls := .type "list", data := .seq #[] }).update s.heap.objs.size (Obj.mapSeq (fun _ => (#[] : Array Value)))).get? b = some o :=
    fun b o hb e => (Heap.get?_update_other _ _ (Ne.symm hb)).trans (Heap.get?_push_of_some _ e)
  refine wpAny_bind (wpAny_letGo ?_)
  have I2 : Inv X pins σ (upd (upd H s.heap.objs.size (.lst [])) s.heap.objs.size (.lst [])) { s with heap := (s.heap.push { cls := .type "list", data := .seq #[] }).update s.heap.objs.size (Obj.mapSeq (fun _ => (#[] : Array Value))), toks := s.toks } :=
    I1.write (x := s.heap.objs.size) (e := s.heap.objs.size) (by rw [upd_same]; exact trivial) (.inl rfl) (fun b u hb hu => (Heap.get?_update_other _ _ (Ne.symm hb)).trans hu) ⟨_, hS2⟩ ⟨Nat.zero_le _, [], _, .nil, hS2⟩
  have n1 : l1 ≠ s.heap.objs.size := Nat.ne_of_lt p1.lt
  have n2 : l2 ≠ s.heap.objs.size := Nat.ne_of_lt p2.lt
  have same2 : Same H (upd (upd H s.heap.objs.size (.lst [])) s.heap.objs.size (.lst [])) := fun b o e => by
    have n := ne_of_none e fr
    rw [upd_ne n, upd_ne n]
    exact e
  have ncell : ∀ c ∈ [z, TI, TO, i1, i2], c ≠ s.heap.objs.size := fun c hc e => hS (e ▸ hc)
  refine zip_extend (S := s.heap.objs.size) (A := X.A.in1) (I.ok.hd hc) D hS H hl _ _ I2 (fun c hc' => fp_stat (hf c hc') (by rw [upd_ne (ncell c hc'), upd_ne (ncell c hc')]; exact (hf c hc').1)) ⟨fun c hc' => ?_, ?_, ?_, ?_, .inl ⟨?_, ?_⟩⟩ ?_
    (same_seqL same2 hq1) (same_seqL same2 hq2) n1 n2 (But.of_same same2) upd_same fun H' s' ps I' b' e' lp pr => ⟨rfl, .ref s.heap.objs.size, H', I', rfl, hQ H' s.heap.objs.size ps (fun b o e => b' b o (ne_of_none e fr) e) fr e' lp pr⟩
  · rw [Heap.size_update, Heap.size_push]
    exact Nat.lt_succ_of_lt (szs c hc')
  · exact oth _ _ (ncell _ (by simp)) hTI
  · exact h1.at fun o q => oth _ _ (ncell _ (by simp)) q
  · exact h2.at fun o q => oth _ _ (ncell _ (by simp)) q
  · exact oth _ _ (ncell _ (by simp)) hz
  · obtain ⟨a, b, hTO⟩ := hTO
    exact ⟨a, b, oth _ _ (ncell _ (by simp)) hTO⟩
  · exact oth _ _ (ncell _ (by simp)) hz
def tLstZip (K : PySem.W.Frag) (ta : TA) : TE := fun σ H Q => ta σ H fun vs H1 => ∃ a b xs ys, vs = [.ref a, .ref b] ∧ SqL K H1 a xs ∧ SqL K H1 b ys ∧
  ∀ H' q ps, Same H1 H' → H1 q = none → H' q = some (.lst (ps.map V.ref)) → ps.length = min xs.length ys.length → Pairs H' xs ys q ps → Q (.ref q) H'
theorem pe_listZip (K : PySem.W.Frag) {e e2 : Expr} {ta : TA} {p pos p' pos' : Pos} (hc : X.calm = true) (hg : Gl X "list") (hm : X.mg "list" = none) (hg2 : Gl X "zip") (hm2 : X.mg "zip" = none) (ha : PA X [e, e2] ta)
    (hs : starEach [e, e2] X.env = (false, eval e X.env) :: starEach [e2] X.env := by rfl) (hpl : (backTo pos' (starEach [e2] X.env)).any (·.1) = false := by rfl)
    (na : starEach [.Call (.Name "zip" p') [e, e2] [] pos'] X.env = (false, eval (.Call (.Name "zip" p') [e, e2] [] pos') X.env) :: starEach [] X.env := by rfl) (hK : X.K = K := by rfl) :
    PE X (.Call (.Name "list" p) [.Call (.Name "zip" p') [e, e2] [] pos'] [] pos) (tLstZip K ta) := by
  subst hK
  refine ⟨fun pins s σ H Q I h => ?_⟩
  refine Call_ (ld_blt I hg hm boot_list (PyProof.Rows.callWith_type1 (args_cons ?_ na) na))
  refine Call_ (ld_blt I hg2 hm2 PyProof.Rows.boot_zip (PyProof.Rows.callWith_type1 (thn (ha.run pos' pins s σ H _ I h) fun us s1 ⟨vs, H1, I1, r1, q1⟩ => ?_) hs hpl))
  obtain ⟨a, b, xs, ys, ex, hqx, hqy, q⟩ := q1
  subst ex
  cases r1 with
  | cons r rr =>
    cases rr with
    | cons r' rr =>
      cases rr
      cases r
      cases r'
      obtain ⟨its, rv, p1, _⟩ := I1.list hqx
      obtain ⟨its2, rv2, p2, _⟩ := I1.list hqy
      refine call_zip_2 p1.isList p2.isList fun h' hz hTI hTO h1 h2 hsz hk => args_nil ?_
      have I2 : Inv X pins σ H1 { s1 with heap := h' } := I1.kept (t' := s1.toks) hk
      have cs : ∀ c, c ∈ [s1.heap.objs.size + 4, s1.heap.objs.size + 2, s1.heap.objs.size + 3, s1.heap.objs.size, s1.heap.objs.size + 1] → s1.heap.objs.size ≤ c ∧ c < s1.heap.objs.size + 5 := fun c hcm => by
        have e' : c = s1.heap.objs.size + 4 ∨ c = s1.heap.objs.size + 2 ∨ c = s1.heap.objs.size + 3 ∨ c = s1.heap.objs.size ∨ c = s1.heap.objs.size + 1 := by simpa using hcm
        omega
      exact call_list_zip hc (PySem.W.ktu_apart s1.heap.objs.size a b p1.lt p2.lt) I2 (fun c hcm => I1.fpOk (cs c hcm).1 (I1.hok.fresh (cs c hcm).1)) (fun c hcm => by show c < h'.objs.size; rw [hsz]; exact (cs c hcm).2) hz hTI ⟨_, _, hTO⟩ h1 h2 hqx hqy q
end
end RO

namespace RO
open PySem PySem.Spec PyProof.Rows L2
/-! ### xs[::2], a list of three -/
def tStep2 (K : PySem.W.Frag) (te : TE) : TE := fun σ H Q => te σ H fun v H1 => ∃ a x y z, v = .ref a ∧ SqL K H1 a [x, y, z] ∧ ∀ p, H1 p = none → Q (.ref p) (upd H1 p (.lst [x, z]))
theorem pick3 (u1 u2 u3 : Value) : slicePick [u1, u2, u3].toArray none none (some 2) = [u1, u3].toArray := by
  have b : sliceBounds none none (some 2) [u1, u2, u3].toArray.size = (0, 3, 2) := by rfl
  have r : sliceRange 0 3 2 = [0, 2] := by decide
  unfold slicePick
  rw [b]
  show ((sliceRange 0 3 2).filterMap _).toArray = _
  rw [r]
  rfl
theorem pe_step2 (K : PySem.W.Frag) {X : Cx} {e : Expr} {te : TE} {k : Nat} {p1 p3 pos : Pos} (he : PE X e te) (hK : X.K = K := by rfl) : PE X (.Subscript e (.Slice none none (some (.Constant (.int 2) k p1)) p3) pos) (tStep2 K te) := by
  subst hK
  refine ⟨fun pins s σ H Q I h => ?_⟩
  refine Subscript_ (thn (he.run pins s σ H _ I h) fun v s1 ⟨x0, H1, I1, r1, q1⟩ => ?_)
  obtain ⟨a, x, y, z, ex, hx, q⟩ := q1
  subst ex
  cases r1
  have hst : PO X (some (.Constant (.int 2) k p1)) (tPart (tC (.int 2))) := po_some pe_int
  refine wpAny_Slice (thn (po_none.run pins s1 σ H1 (fun o H2 => o = none ∧ H2 = H1) I1 ⟨rfl, rfl⟩) fun vl s2 ⟨l, H2, I2, pl, el, e2⟩ => ?_)
  subst el e2
  refine thn (po_none.run pins s2 σ H2 (fun o H3 => o = none ∧ H3 = H2) I2 ⟨rfl, rfl⟩) fun vu s3 ⟨u, H3, I3, pu, eu, e3⟩ => ?_
  subst eu e3
  refine thn (hst.run pins s3 σ H3 (fun o H4 => o = some 2 ∧ H4 = H3) I3 ⟨2, rfl, rfl, rfl⟩) fun vs s4 ⟨o, H4, I4, ps, eo, e4⟩ => ?_
  subst eo e4
  have I5 : Inv X pins σ H4 { s4 with heap := s4.heap.push { cls := .type "slice", data := .fields #[vl, vu, vs] } } := I4.kept (t' := s4.toks) fun b ob q => Heap.get?_push_of_some _ q
  obtain ⟨its, r, ht, hz⟩ := I5.list hx
  have hlen := r.length
  obtain ⟨u1, u2, u3, rfl, q1, q2, q3⟩ : ∃ u1 u2 u3, its = [u1, u2, u3] ∧ RelV x u1 ∧ RelV y u2 ∧ RelV z u3 := by
    cases r with
    | cons p q =>
      cases q with
      | cons p' q' =>
        cases q' with
        | cons p'' q'' =>
          cases q''
          exact ⟨_, _, _, rfl, p, p', p''⟩
  show wpAny (model X.prog X.w) X.A (subscriptTail e (.Slice none none (some (.Constant (.int 2) k p1)) p3) (.ref a) (.ref s4.heap.objs.size)) (EP X pins σ Q) X.xe { s4 with heap := s4.heap.push { cls := .type "slice", data := .fields #[vl, vu, vs] } }
  refine tail_any (ops := [.ref a, .ref s4.heap.objs.size]) ht.isList.typeIs (PySem.slot_list_getitem.lookup) ?_ (by with_unfolding_all rfl)
  refine wpAny_getItem_list_slice ht.isList (Heap.IsSliceOf.new _ vl vu vs) pl pu ps (by decide) ?_ (by rw [List.size_toArray]; omega)
  rw [pick3]
  refine ⟨.ref _, _, I5.laid (t' := s4.toks) (o := .lst [x, z]) (fun b ob q => Heap.get?_push_of_some _ q) (Nat.le_refl _) ?_, rfl, q _ (I5.hok.fresh (Nat.le_refl _))⟩
  exact ⟨by show 2 ≤ sizeLine; decide, _, 0, .cons q1 (.cons q3 .nil), Heap.get?_push_size _ rfl⟩
end RO

namespace RO
open PySem PySem.Spec PyProof.Rows L2 PySem.W
/-! ### min, max of a list of numbers, default= -/
theorem reads_ints {h : Heap} : ∀ {vs : List Value} {ns : List Int}, IntsAre vs ns → ReadsAll h vs (ns.map PyData.int) []
  | _, _, .nil => .nil
  | _, _, .cons n t r => .cons (as := []) (bs := []) (.int n t) (reads_ints r)
theorem alike_ints (ns : List Int) : AlikeAll (ns.map PyData.int) := by
  refine ⟨fun x hx y hy => ?_, fun x hx => ?_⟩
  · obtain ⟨a, _, rfl⟩ := List.mem_map.mp hx
    obtain ⟨b, _, rfl⟩ := List.mem_map.mp hy
    rfl
  · obtain ⟨a, _, rfl⟩ := List.mem_map.mp hx
    intro z
    cases z
theorem depth_ints : ∀ ns : List Int, PyData.depthAll (ns.map PyData.int) ≤ 1
  | [] => Nat.zero_le _
  | n :: r => Nat.max_le.mpr ⟨Nat.zero_le _, depth_ints r⟩
theorem min_fold (n : Int) (ns : List Int) : ns.foldl min n ∈ n :: ns ∧ ∀ y ∈ n :: ns, ns.foldl min n ≤ y := by
  induction ns generalizing n with
  | nil => exact ⟨by simp, fun y hy => by simp at hy; rw [hy]; exact Int.le_refl _⟩
  | cons k r ih =>
    obtain ⟨h1, h2⟩ := ih (min n k)
    show r.foldl min (min n k) ∈ _ ∧ _
    refine ⟨?_, fun y hy => ?_⟩
    · rcases List.mem_cons.mp h1 with z | z
      · rw [z]
        by_cases c : n ≤ k
        · rw [Int.min_eq_left c]; simp
        · rw [Int.min_eq_right (by omega)]; simp
      · exact List.mem_cons_of_mem _ (List.mem_cons_of_mem _ z)
    · have m := h2 (min n k) (List.mem_cons_self ..)
      show r.foldl min (min n k) ≤ y
      rcases List.mem_cons.mp hy with rfl | hy
      · omega
      · rcases List.mem_cons.mp hy with rfl | hy
        · omega
        · exact h2 y (List.mem_cons_of_mem _ hy)
theorem max_fold (n : Int) (ns : List Int) : ns.foldl max n ∈ n :: ns ∧ ∀ y ∈ n :: ns, y ≤ ns.foldl max n := by
  induction ns generalizing n with
  | nil => exact ⟨by simp, fun y hy => by simp at hy; rw [hy]; exact Int.le_refl _⟩
  | cons k r ih =>
    obtain ⟨h1, h2⟩ := ih (max n k)
    show r.foldl max (max n k) ∈ _ ∧ _
    refine ⟨?_, fun y hy => ?_⟩
    · rcases List.mem_cons.mp h1 with z | z
      · rw [z]
        by_cases c : n ≤ k
        · rw [Int.max_eq_right c]; simp
        · rw [Int.max_eq_left (by omega)]; simp
      · exact List.mem_cons_of_mem _ (List.mem_cons_of_mem _ z)
    · have m := h2 (max n k) (List.mem_cons_self ..)
      show y ≤ r.foldl max (max n k)
      rcases List.mem_cons.mp hy with rfl | hy
      · omega
      · rcases List.mem_cons.mp hy with rfl | hy
        · omega
        · exact h2 y (List.mem_cons_of_mem _ hy)
def rMinDef (K : PySem.W.Frag) (lt : Int → Int → Prop) : List V → List V → Hp → VK → Prop := fun vs zs H Q => ∃ (a : Addr) (ns : List Int) (d : Int), vs = [V.ref a] ∧ zs = [V.int d] ∧ SqL K H a (ns.map V.int) ∧ ∀ m, (ns = [] ∧ m = d ∨ m ∈ ns ∧ ∀ y ∈ ns, lt m y) → Q (.int m) H
theorem k_minDef (K : PySem.W.Frag) {X : Cx} (hc : X.calm = true) (hu : X.A.units + 64 < cLine) (hK : X.K = K := by rfl) : CallRK X (.builtin "min") [Str.ofString "default"] (rMinDef K fun m y => m ≤ y) := by
  subst hK
  intro pins s σ H vs zs us ws Q I r rz h
  obtain ⟨a, ns, d, rfl, rfl, hs, q⟩ := h
  obtain ⟨its, rv, hl, _⟩ := I.list hs
  rw [Vals.ref1 r]
  obtain ⟨w1, rfl, td, rfl⟩ := vals1 rz
  have dl := depth_ints ns
  refine min_list_default (I.ok.hd hc) hl.isList (reads_ints rv.ints) (alike_ints ns) (by omega) (fun e h' tk hk => ?_) fun y ys i v h' tk bs e hv rd hk => ?_
  · exact ⟨.int d, H, I.kept hk, ⟨_, rfl⟩, q d (.inl ⟨(by cases ns with | nil => rfl | cons a b => cases e), rfl⟩)⟩
  · cases ns with
    | nil => cases e
    | cons n r =>
      cases e
      rw [minD_ints] at rd
      obtain ⟨m1, m2⟩ := min_fold n r
      generalize r.foldl min n = m at *
      cases rd
      exact ⟨.int m, H, I.kept hk, ⟨_, rfl⟩, q m (.inr ⟨m1, m2⟩)⟩
theorem k_maxDef (K : PySem.W.Frag) {X : Cx} (hc : X.calm = true) (hu : X.A.units + 64 < cLine) (hK : X.K = K := by rfl) : CallRK X (.builtin "max") [Str.ofString "default"] (rMinDef K fun m y => y ≤ m) := by
  subst hK
  intro pins s σ H vs zs us ws Q I r rz h
  obtain ⟨a, ns, d, rfl, rfl, hs, q⟩ := h
  obtain ⟨its, rv, hl, _⟩ := I.list hs
  rw [Vals.ref1 r]
  obtain ⟨w1, rfl, td, rfl⟩ := vals1 rz
  have dl := depth_ints ns
  refine max_list_default (I.ok.hd hc) hl.isList (reads_ints rv.ints) (alike_ints ns) (by omega) (fun e h' tk hk => ?_) fun y ys i v h' tk bs e hv rd hk => ?_
  · exact ⟨.int d, H, I.kept hk, ⟨_, rfl⟩, q d (.inl ⟨(by cases ns with | nil => rfl | cons a b => cases e), rfl⟩)⟩
  · cases ns with
    | nil => cases e
    | cons n r =>
      cases e
      rw [maxD_ints] at rd
      obtain ⟨m1, m2⟩ := max_fold n r
      generalize r.foldl max n = m at *
      cases rd
      exact ⟨.int m, H, I.kept hk, ⟨_, rfl⟩, q m (.inr ⟨m1, m2⟩)⟩
end RO

namespace RO
open PySem PySem.Spec PyProof.Rows L2

/-! ### len of a set of numbers -/
def rLenSet (ww : World) : List V → Hp → VK → Prop := fun vs H Q => ∃ (p : Addr) (S : Int → Bool) (n : Nat) (ns : List Int), vs = [V.ref p] ∧ H p = some (SetO ww p S n) ∧ ns.Nodup ∧ (∀ k, S k = true ↔ k ∈ ns) ∧ Q (.int ns.length) H
theorem k_lenSet (ww : World) {X : Cx} (h2 : X.w = ww := by rfl) : CallR X (.builtin "len") (rLenSet ww) := by
  subst h2
  intro pins s σ H vs us Q I r h
  obtain ⟨p, S, n, ns, rfl, ha, nd, mem, q⟩ := h
  rw [Vals.ref1 r]
  obtain ⟨o, es, ep, t, ho, hx, hd, g, nk, hm, hb, hf, hn, _⟩ := setO_get I ha
  have pm : (es.toList.map keyOf).Perm ns := (List.perm_ext_iff_of_nodup nk nd).mpr fun k => (hm k).symm.trans (mem k)
  have le : es.size = ns.length := by
    rw [← pm.length_eq, List.length_map, Array.length_toList]
  have sb : scanBound ≤ 2 ^ 62 := by decide
  refine PySem.call_len_set ho hx hd hf (by omega) ⟨.int ns.length, H, I.tok _, ⟨_, by rw [le]⟩, q⟩
end RO

namespace RO
open PySem PySem.Spec PyProof.Rows L2

/-! ### a text taken once, or not at all -/
theorem op_str1 {X : Cx} : OpR X (binaryOp .Mult) (fun x y H Q => ∃ z n, x = .str z ∧ y = .int n ∧ -1000 ≤ n ∧ n ≤ 1 ∧ z.length ≤ sizeLine ∧ Q (.str (if n < 1 then Str.empty else z)) H) := by
  intro pins s σ H x y v u Q I rx ry h
  obtain ⟨z, n, rfl, rfl, h1, h2, hz, q⟩ := h
  obtain ⟨t, rfl⟩ := rx
  obtain ⟨t', rfl⟩ := ry
  have one : ¬ n < 1 → (n == 1 || z.length == 0) = true := fun g => by
    have : n = 1 := by omega
    subst this
    rfl
  refine PySem.P.mul_str ?_ (fun g e => ?_) (fun g e => ?_) ?_
  · rw [decide_eq_false (by omega), decide_eq_false (by omega)]
    rfl
  · rw [one g] at e
    cases e
  · rw [one g] at e
    cases e
  · by_cases c : n < 1
    · rw [if_pos c] at q ⊢
      exact ⟨by decide, .str Str.empty, H, I.tok _, ⟨_, rfl⟩, q⟩
    · rw [if_neg c] at q ⊢
      rw [if_pos (one c)]
      exact ⟨.str z, H, I, ⟨_, rfl⟩, q⟩

/-! ### a number's figures, two at least -/
def pad2 (i : Int) : Str := if i < 10 then Str.ofString "0" ++ Str.ofString (toString i) else Str.ofString (toString i)
theorem figs {i : Int} (h : 0 ≤ i) : Str.ofString (toString i) = ⟨((Nat.toDigits 10 i.toNat).map Char.toNat).toArray⟩ := by
  obtain ⟨m, rfl⟩ := Int.eq_ofNat_of_zero_le h
  exact text_ofNat m
theorem figs_len {i : Int} (h : 0 ≤ i) : (Str.ofString (toString i)).length = (Nat.toDigits 10 i.toNat).length := by
  rw [figs h]
  show (((Nat.toDigits 10 i.toNat).map Char.toNat).toArray).size = _
  simp
theorem figs_fits {i : Int} (h0 : 0 ≤ i) (h1 : i < 1000000) : (Str.ofString (toString i)).length ≤ 6 := by
  rw [figs_len h0]
  exact digits10_le (by decide) (by omega)
theorem len_app (a b : Str) : (a ++ b).length = a.length + b.length := strLen_append a b
theorem pad2_fits {i : Int} (h0 : 0 ≤ i) (h1 : i < 1000000) : (pad2 i).length ≤ 7 := by
  have l := figs_fits h0 h1
  unfold pad2
  split
  · rw [len_app]
    have : (Str.ofString "0").length = 1 := by decide +kernel
    omega
  · omega
def f02 : Builtin.Float.FormatSpec := { fill := 48, align := 61, width := some 2, type := some 100 }
theorem parse02 : Builtin.Float.parseFormatSpec (⟨#[48, 50, 100]⟩ : Str).cps.toList "int" 62 = .ok f02 := by kernel_rfl
theorem lg_small {i : Int} (h : i.natAbs < 1048576) : i.natAbs.log2 < 1920 := by
  by_cases z : i.natAbs = 0
  · rw [z]
    decide +kernel
  · exact (Nat.log2_lt z).mpr (Nat.lt_of_lt_of_le (show i.natAbs < 2 ^ 20 by omega) (Nat.pow_le_pow_right (by decide) (show 20 ≤ 1920 by decide)))
theorem meets02 {a : Int} {t : Tok} (h0 : 0 ≤ a) (h1 : a < 1000000) : ∀ u, Meets (Builtin.«int.__format__» ⟨[.int a t, .str ⟨#[48, 50, 100]⟩ u], []⟩) (fun _ R s => ∀ t' k, R (.ok (.ret (.str (pad2 a) t'))) { s with toks := k }) := by
  intro _
  apply PySem.W.KPc.meets_of
  intro _ _ _ _ _ _ _
  unfold Builtin.«int.__format__»
  refine wpAny_bind (wpAny_of_eq (a := (_, _)) rfl ?_)
  refine wpAny_bind (wpAny_of_eq (a := _) rfl ?_)
  kxf_if
  refine wpAny_bind (wpAny_typeNameOf (T := "str") (typeIs_str _ _ _) (by decide) fun _ => ?_)
  refine wpAny_bind (wpAny_of_eq (a := some _) rfl ?_)
  kxf_if
  kxf_if
  refine wpAny_bind (wpAny_typeNameOfCut_int ?_)
  rw [parse02]
  kxf_if
  (repeat kxf_if)
  have small : a.natAbs.log2 < 1920 := by
    by_cases z : a.natAbs = 0
    · rw [z]
      decide +kernel
    · exact (Nat.log2_lt z).mpr (Nat.lt_of_lt_of_le (show a.natAbs < 2 ^ 20 by omega) (Nat.pow_le_pow_right (by decide) (show 20 ≤ 1920 by decide)))
  refine wpAny_bind (wpAny_of_eq (PySem.overDigitLimit_small small) ?_)
  (repeat kxf_if)
  refine (fun e => PySem.W.KXf.ret_text (T := pad2 a) e (by rw [e]; exact Nat.le_trans (pad2_fits h0 h1) (by decide)) ?_) ?_
  · assumption
  · refine Eq.trans (b := intSpecText f02 a) (by with_unfolding_all rfl) ?_
    rw [intSpecText_zero rfl rfl rfl rfl h0]
    show (⟨(List.replicate (2 - (Nat.toDigits 10 a.natAbs).length) 48).toArray⟩ : Str) ++ Str.ofString (toString a) = pad2 a
    have D := digitsFacts10 a.natAbs
    have l1 := D.ge1
    unfold pad2
    by_cases c : a < 10
    · rw [if_pos c, D.lt10 (by omega)]
      rfl
    · have l2 := D.ge10 (by omega)
      rw [if_neg c, show 2 - (Nat.toDigits 10 a.natAbs).length = 0 by omega]
      exact Str.empty_append _
section
variable {X : Cx}
/-- {x:02d} -/
def tFmt02 (te : TE) : TE := fun σ H Q => te σ H fun x H1 => ∃ i : Int, x = .int i ∧ 0 ≤ i ∧ i < 1000000 ∧ Q (.str (pad2 i)) H1
theorem pe_fmt02 {e sp : Expr} {te : TE} {pos : Pos} (he : PE X e te) (hs : PE X sp (tC (.str (Str.ofString "02d")))) : PE X (.FormattedValue e (-1) (some sp) pos) (tFmt02 te) := by
  refine ⟨fun pins s σ H Q I h => ?_⟩
  refine wpAny_FormattedValue_spec (thn (he.run pins s σ H _ I h) fun v s1 hv => ?_)
  obtain ⟨x, H1, I1, r1, i, rfl, i0, i1, q⟩ := hv
  obtain ⟨t, rfl⟩ := r1
  refine thn (hs.run pins s1 σ H1 (fun x H2 => x = .str (Str.ofString "02d") ∧ H2 = H1) I1 ⟨rfl, rfl⟩) fun r s2 hr => ?_
  obtain ⟨x2, H2, I2, r2, rfl, rfl⟩ := hr
  obtain ⟨t2, rfl⟩ := r2
  exact ⟨_, t2, rfl, PySem.W.KXf.field_int (spec' := ⟨#[48, 50, 100]⟩) (by decide +kernel) rfl (by decide) (meets02 i0 i1) fun t' k => ⟨.str (pad2 i), _, I2.tok k, ⟨_, rfl⟩, q⟩⟩
/-- the parts of an f-string, named -/
def tJd (ts : List TE) : TE := fun σ H Q => tJs ts Str.empty σ H fun out H1 => Q (.str out) H1
theorem pe_joinedN {v1 v2 : Expr} {rest : List Expr} {ts : List TE} {pos : Pos} (h : PJ X (v1 :: v2 :: rest) ts) : PE X (.JoinedStr (v1 :: v2 :: rest) pos) (tJd ts) := pe_joined h
end
end RO

namespace RO
open PySem PySem.Spec PyProof.Rows L2

/-! ### d.get(k), k a number, a text or None -/
theorem leaf_of {prog : Program} {w : World} {h : Heap} {a : Addr} {vs : List (Key × Value)} (dd : h.DictOf (mixKind prog w) a vs) : ∃ f : Leaf → Option Value, h.MapOf (leafKind prog w) a f ∧ f .none = none := by
  obtain ⟨o, es, ep, h1, h2, h3, h4, h5, h6⟩ := dd
  refine ⟨fun k => findBy (leafKind prog w).is es k, ⟨o, es, ep, h1, h2, h3, fun e he => ?_, fun _ => rfl⟩, ?_⟩
  · obtain ⟨k, k1, k2⟩ := h4 e he
    rcases keyIs_shape k1 with ⟨i, t, rfl, z⟩ | ⟨x, t, rfl, z⟩
    · refine ⟨.num i, by rw [z]; exact decide_eq_true rfl, k2⟩
    · refine ⟨.text x, by rw [z] at k1 ⊢; exact k1, k2⟩
  · show (es.find? fun e => (leafKind prog w).is Leaf.none e.key).map _ = none
    rw [Array.find?_eq_none.mpr fun e he => ?_]
    · rfl
    · obtain ⟨k, k1, _⟩ := h4 e he
      rcases keyIs_shape k1 with ⟨i, t, rfl, z⟩ | ⟨x, t, rfl, z⟩
      · rw [z]
        exact Bool.false_ne_true
      · rw [z]
        exact Bool.false_ne_true
section
variable {X : Cx} {o e : Expr} {apos cpos : Pos} {td ty : TE}
/-- what a dict tells for a key, or for None -/
def tDGetN (td ty : TE) : TE := fun σ H Q => td σ H fun x H1 => ∃ a, x = .ref a ∧ IsD H1 a ∧ ty σ H1 fun y H2 => ∃ kvs, H2 a = some (.dK kvs) ∧ ((∃ k, y = kV k ∧ Q ((valV kvs k).getD .non) H2) ∨ y = .non ∧ Q .non H2)
theorem pe_dgetN (hu : X.A.units + 1 < cLine) (ho : PE X o td) (he : PE X e ty) (m : M1 X o "get" apos e cpos) : PE X (.Call (.Attribute o "get" apos) [e] [] cpos) (tDGetN td ty) := by
  refine ⟨fun pins s σ H Q I h => ?_⟩
  refine wpAny_Call_method m.base m.few m.line PySem.F.plainAttrs_dict PySem.F.slot_dict_get PySem.F.type_dict_get (thn (ho.run pins s σ H _ I h) fun u s1 ⟨x, H1, I1, rx, a, ex, d, q1⟩ => ?_)
  subst ex
  obtain rfl : u = Value.ref a := rx
  obtain ⟨t1, t2, _⟩ := isD_at I1 d
  refine ⟨t1, t2, ?_⟩
  rw [m.trees]
  refine Calls.callWith_builtin rfl (Calls.evalArgs_plain (Calls.spliced_cons (thn (he.run pins s1 σ H1 _ I1 q1) fun iv s2 ⟨y, H2, I2, ry, kvs, e2, q2⟩ => Calls.spliced_nil ?_)))
  rcases q2 with ⟨k, rfl, q2⟩ | ⟨rfl, q2⟩
  · exact d_get1 hu I2 (DGet.k e2) ry fun w' s3 I3 rw' => ⟨_, H2, I3, rw', q2⟩
  · obtain rfl : iv = Value.none := ry
    obtain ⟨z, hd, vs, rel, dd⟩ := dk_of I2.hok e2
    obtain ⟨f, fm, fn⟩ := leaf_of dd
    refine call_meetsIn PySem.F.slot_dict_get dd.typeIs PySem.F.entry_dict_get (PySem.F.args_dict_get_2 _ _) (meets_dict_get (leafKind X.prog X.w) (k := Leaf.none) a rfl hd) ⟨f, fm, .non, H2, I2.tok _, ?_, q2⟩
    rw [fn]
    rfl
end
/-! ### dict(xs) of pairs -/
theorem k_dictP (K : PySem.W.Frag) {X : Cx} (hc : X.calm = true) (h : X.K = K := by rfl) : CallR X (.type "dict") (fun xs H Q => ∃ (a : Addr) (ps : List Addr) (kvs : List (Key × V)), xs = [.ref a] ∧ SqL K H a (ps.map V.ref) ∧ Paired (fun p kv => SqT K H p [kV kv.1, kv.2]) ps kvs ∧
    ∀ p, H p = none → Q (.ref p) (upd H p (.dK (mergeK [] kvs)))) := by
  subst h
  exact call_dictP hc
end RO

namespace RO
open PySem PySem.Spec PyProof.Rows L2

/-! ### a tuple taken so often -/
theorem k_repT (K : PySem.W.Frag) {X : Cx} (h : X.K = K := by rfl) : OpR X (binaryOp .Mult) (rRepT K) := by
  subst h
  exact op_repT

/-! ### cards -/
inductive CardsOf (R : Addr → Str → PyData → Nat → Prop) : List Addr → List Str → List PyData → Nat → Prop
  | nil : CardsOf R [] [] [] 0
  | cons {b : Addr} {t : Str} {x : PyData} {c : Nat} {bs : List Addr} {ts : List Str} {xs : List PyData} {cs : Nat} : R b t x c → CardsOf R bs ts xs cs → CardsOf R (b :: bs) (t :: ts) (x :: xs) (c + cs)
section
variable {R S : Addr → Str → PyData → Nat → Prop} {bs : List Addr} {ts : List Str} {xs : List PyData} {cs : Nat}
theorem CardsOf.snoc {b : Addr} {t : Str} {x : PyData} {c : Nat} (h : CardsOf R bs ts xs cs) (h2 : R b t x c) : CardsOf R (bs ++ [b]) (ts ++ [t]) (xs ++ [x]) (cs + c) := by
  induction h with
  | nil =>
    rw [Nat.add_comm]
    exact .cons h2 .nil
  | cons a _ ih =>
    rw [Nat.add_assoc]
    exact .cons a ih
theorem CardsOf.imp (h : CardsOf R bs ts xs cs) (f : ∀ b t x c, R b t x c → S b t x c) : CardsOf S bs ts xs cs := by
  induction h with
  | nil => exact .nil
  | cons a _ ih => exact .cons (f _ _ _ _ a) ih
theorem CardsOf.len (h : CardsOf R bs ts xs cs) : ts.length = bs.length ∧ xs.length = bs.length := by
  induction h with
  | nil => exact ⟨rfl, rfl⟩
  | cons _ _ ih => exact ⟨congrArg (· + 1) ih.1, congrArg (· + 1) ih.2⟩
theorem CardsOf.at_ (h : CardsOf R bs ts xs cs) : ∀ {i : Nat} {b : Addr}, bs[i]? = some b → ∃ t x c, ts[i]? = some t ∧ R b t x c ∧ c ≤ cs := by
  induction h with
  | nil => intro i b e; simp at e
  | @cons b t x c bs ts xs cs a _ ih =>
    intro i b e
    cases i with
    | zero =>
      obtain rfl := Option.some.inj e
      exact ⟨t, x, c, rfl, a, by omega⟩
    | succ i =>
      obtain ⟨t', x', c', h1, h2, h3⟩ := ih e
      exact ⟨t', x', c', h1, h2, by omega⟩
end
def engs : List Str := ["port", "star"]
def cardRow (ts : List Str) : Str := Str.ofString "(" ++ Txt.join (Str.ofString "; ") ts ++ Str.ofString ")"
def orderTs : List Str := ["-full", "-half", "-slow", "-dead", "stop", "+dead", "+slow", "+half", "+full"]
def orderT (o : Int) : Str := orderTs.getD (o + 4).toNat Str.empty
/-- a card at most so deep stands at a, its text, its data, how many cards there are -/
def CardAt (K : PySem.W.Frag) (H : Hp) : Nat → Addr → Str → PyData → Nat → Prop
  | 0 => fun _ _ _ _ => False
  | d + 1 => fun a t x c =>
    (∃ (e : Str) (o : Int), SqT K H a [.str "ring", .str e, .int o] ∧ e ∈ engs ∧ -4 ≤ o ∧ o ≤ 4 ∧ t = e ++ Str.ofString " " ++ orderT o ∧ x = .tuple [.str "ring", .str e, .int o] ∧ c = 1)
    ∨ (∃ n : Int, SqT K H a [.str "wait", .int n] ∧ 1 ≤ n ∧ n ≤ 999 ∧ t = Str.ofString "wait " ++ Str.ofString (toString n) ∧ x = .tuple [.str "wait", .int n] ∧ c = 1)
    ∨ (∃ (n : Int) (b : Addr) (t' : Str) (x' : PyData) (c' : Nat), SqT K H a [.str "again", .int n, .ref b] ∧ 0 ≤ n ∧ n ≤ 1000000000 ∧ CardAt K H d b t' x' c' ∧ t = Str.ofString (toString n) ++ Str.ofString "*" ++ t' ∧ x = .tuple [.str "again", .int n, x'] ∧ c = c' + 1)
    ∨ (∃ (q : Addr) (bs : List Addr) (ts : List Str) (xs : List PyData) (c' : Nat), SqT K H a [.str "row", .ref q] ∧ SqT K H q (bs.map V.ref) ∧ bs.length ≤ 6 ∧ CardsOf (CardAt K H d) bs ts xs c' ∧ t = cardRow ts ∧ x = .tuple [.str "row", .tuple xs] ∧ c = c' + 1)
section
variable {K : PySem.W.Frag} {H H1 : Hp}
theorem card_imp (f : ∀ a xs, SqT K H a xs → SqT K H1 a xs) : ∀ (d : Nat) (a : Addr) (t : Str) (x : PyData) (c : Nat), CardAt K H d a t x c → CardAt K H1 d a t x c
  | 0, _, _, _, _, h => False.elim h
  | d + 1, a, t, x, c, h => by
    rcases h with ⟨e, o, h1, h2⟩ | ⟨n, h1, h2⟩ | ⟨n, b, t', x', c', h1, h2, h3, h4, h5⟩ | ⟨q, bs, ts, xs, c', h1, h2, h3, h4, h5⟩
    · exact .inl ⟨e, o, f _ _ h1, h2⟩
    · exact .inr (.inl ⟨n, f _ _ h1, h2⟩)
    · exact .inr (.inr (.inl ⟨n, b, t', x', c', f _ _ h1, h2, h3, card_imp f d _ _ _ _ h4, h5⟩))
    · exact .inr (.inr (.inr ⟨q, bs, ts, xs, c', f _ _ h1, f _ _ h2, h3, h4.imp (card_imp f d), h5⟩))
theorem card_same (s : Same H H1) {d : Nat} {a : Addr} {t : Str} {x : PyData} {c : Nat} (h : CardAt K H d a t x c) : CardAt K H1 d a t x c := card_imp (fun _ _ q => same_seqT s q) d a t x c h
theorem card_up : ∀ (d : Nat) (a : Addr) (t : Str) (x : PyData) (c : Nat), CardAt K H d a t x c → CardAt K H (d + 1) a t x c
  | 0, _, _, _, _, h => h.elim
  | d + 1, a, t, x, c, h => by
    rcases h with ⟨e, o, h1, h2⟩ | ⟨n, h1, h2⟩ | ⟨n, b, t', x', c', h1, h2, h3, h4, h5⟩ | ⟨q, bs, ts, xs, c', h1, h2, h3, h4, h5⟩
    · exact .inl ⟨e, o, h1, h2⟩
    · exact .inr (.inl ⟨n, h1, h2⟩)
    · exact .inr (.inr (.inl ⟨n, b, t', x', c', h1, h2, h3, card_up d _ _ _ _ h4, h5⟩))
    · exact .inr (.inr (.inr ⟨q, bs, ts, xs, c', h1, h2, h3, h4.imp (card_up d), h5⟩))
theorem card_deeper {d e : Nat} (h : d ≤ e) {a : Addr} {t : Str} {x : PyData} {c : Nat} (q : CardAt K H d a t x c) : CardAt K H e a t x c := by
  induction e with
  | zero =>
    obtain rfl : d = 0 := by omega
    exact q
  | succ e ih =>
    by_cases z : d = e + 1
    · exact z ▸ q
    · exact card_up _ _ _ _ _ (ih (by omega))
theorem card_pos : ∀ {d : Nat} {a : Addr} {t : Str} {x : PyData} {c : Nat}, CardAt K H d a t x c → 1 ≤ c
  | 0, _, _, _, _, h => h.elim
  | d + 1, a, t, x, c, h => by
    rcases h with ⟨e, o, h1, h2, h3, h4, h5, h6, h7⟩ | ⟨n, h1, h2, h3, h4, h5, h6⟩ | ⟨n, b, t', x', c', h1, h2, h3, h4, h5, h6, h7⟩ | ⟨q, bs, ts, xs, c', h1, h2, h3, h4, h5, h6, h7⟩ <;> omega
theorem orderT_fits (o : Int) : (orderT o).length ≤ 5 := by
  unfold orderT
  rcases z : orderTs[(o + 4).toNat]? with _ | t
  · rw [List.getD_eq_getElem?_getD, z]
    decide +kernel
  · rw [List.getD_eq_getElem?_getD, z]
    have := List.mem_of_getElem? z
    exact (show ∀ t ∈ orderTs, t.length ≤ 5 by decide +kernel) t this
theorem engine_fits {e : Str} (h : e ∈ engs) : TOk 4 e := by
  have he2 : e = "port" ∨ e = "star" := by simpa [engs] using h
  rcases he2 with rfl | rfl <;> exact ⟨by decide +kernel, by decide +kernel⟩
theorem figs_fits9 {i : Int} (h0 : 0 ≤ i) (h1 : i ≤ 1000000000) : (Str.ofString (toString i)).length ≤ 10 := by
  rw [figs_len h0]
  exact digits10_le (by decide) (by omega)
theorem join_len (sep : Str) : ∀ ts : List Str, (Txt.join sep ts).length ≤ (ts.map (·.length)).sum + ts.length * sep.length := fun ts => by
  rw [TL.join_eq]
  induction ts with
  | nil => exact Nat.zero_le _
  | cons t ts ih =>
    cases ts with
    | nil =>
      show t.length ≤ _
      simp
    | cons u us =>
      show (t ++ sep ++ Str.join sep (u :: us)).length ≤ _
      rw [len_app, len_app]
      simp only [List.map_cons, List.sum_cons, List.length_cons] at ih ⊢
      have : (us.length + 1 + 1) * sep.length = (us.length + 1) * sep.length + sep.length := Nat.succ_mul _ _
      omega
theorem cards_len {R : Addr → Str → PyData → Nat → Prop} (f : ∀ b t x c, R b t x c → t.length ≤ 20 * c) {bs : List Addr} {ts : List Str} {xs : List PyData} {cs : Nat} (h : CardsOf R bs ts xs cs) : (ts.map (·.length)).sum ≤ 20 * cs := by
  induction h with
  | nil => exact Nat.le_refl _
  | cons a _ ih =>
    have := f _ _ _ _ a
    rw [List.map_cons, List.sum_cons]
    omega
theorem card_len : ∀ (d : Nat) (a : Addr) (t : Str) (x : PyData) (c : Nat), CardAt K H d a t x c → t.length ≤ 20 * c
  | 0, _, _, _, _, h => h.elim
  | d + 1, a, t, x, c, h => by
    have b1 : (Str.ofString " ").length = 1 := by decide +kernel
    have b2 : (Str.ofString "wait ").length = 5 := by decide +kernel
    have b3 : (Str.ofString "*").length = 1 := by decide +kernel
    have b4 : (Str.ofString "(").length = 1 := by decide +kernel
    have b5 : (Str.ofString ")").length = 1 := by decide +kernel
    have b6 : (Str.ofString "; ").length = 2 := by decide +kernel
    rcases h with ⟨e, o, h1, h2, h3, h4, h5, h6, h7⟩ | ⟨n, h1, h2, h3, h4, h5, h6⟩ | ⟨n, b, t', x', c', h1, h2, h3, h4, h5, h6, h7⟩ | ⟨q, bs, ts, xs, c', h1, h2, h3, h4, h5, h6, h7⟩
    · have := (engine_fits h2).1
      have := orderT_fits o
      rw [h5, len_app, len_app]
      omega
    · have := figs_fits9 (i := n) (by omega) (by omega)
      rw [h4, len_app]
      omega
    · have := figs_fits9 (i := n) (by omega) (by omega)
      have := card_len d _ _ _ _ h4
      rw [h5, len_app, len_app]
      omega
    · have z := cards_len (card_len d) h4
      have y := join_len (Str.ofString "; ") ts
      have := h4.len.1
      rw [b6] at y
      rw [h5]
      unfold cardRow
      rw [len_app, len_app]
      omega
theorem RepOk.tupleS {ds : List PyData} {k n : Nat} (h1 : PyData.showableAll ds = true) (h2 : PyData.hasDictAll ds = false) (h3 : PyData.depthAll ds ≤ k) (h4 : PyData.leavesShortAll 400 ds = true) (h6 : PyData.canLayAll0 ds = true) (h5 : PyData.bulkAll ds ≤ n) : RepOk (.tuple ds) (k + 1) n :=
  ⟨by simpa only [PyData.showable] using h1, by simpa only [PyData.hasDict] using h2, by simp only [PyData.depth]; omega, by simpa only [PyData.leavesShort] using h4, by simpa only [PyData.canLay0] using h6, by simpa only [PyData.bulk] using h5⟩
theorem RepOk.pair {a b : PyData} {k m n : Nat} (ha : RepOk a k m) (hb : RepOk b k n) : RepOk (.tuple [a, b]) (k + 1) (m + n + 2) := by
  refine RepOk.tupleS ?_ ?_ ?_ ?_ ?_ ?_
  · simp only [PyData.showableAll, ha.sh, hb.sh, Bool.and_self]
  · simp only [PyData.hasDictAll, ha.nd, hb.nd, Bool.or_self]
  · have := ha.dp
    have := hb.dp
    simp only [PyData.depthAll]
    omega
  · simp only [PyData.leavesShortAll, ha.lv, hb.lv, Bool.and_self]
  · simp only [PyData.canLayAll0, ha.cl, hb.cl, Bool.and_self]
  · have := ha.bk
    have := hb.bk
    simp only [PyData.bulkAll]
    omega
theorem RepOk.three {a b c : PyData} {k m n l : Nat} (ha : RepOk a k m) (hb : RepOk b k n) (hc : RepOk c k l) : RepOk (.tuple [a, b, c]) (k + 1) (m + n + l + 3) := by
  refine RepOk.tupleS ?_ ?_ ?_ ?_ ?_ ?_
  · simp only [PyData.showableAll, ha.sh, hb.sh, hc.sh, Bool.and_self]
  · simp only [PyData.hasDictAll, ha.nd, hb.nd, hc.nd, Bool.or_self]
  · have := ha.dp
    have := hb.dp
    have := hc.dp
    simp only [PyData.depthAll]
    omega
  · simp only [PyData.leavesShortAll, ha.lv, hb.lv, hc.lv, Bool.and_self]
  · simp only [PyData.canLayAll0, ha.cl, hb.cl, hc.cl, Bool.and_self]
  · have := ha.bk
    have := hb.bk
    have := hc.bk
    simp only [PyData.bulkAll]
    omega
theorem cards_rep {R : Addr → Str → PyData → Nat → Prop} {k : Nat} (f : ∀ b t x c, R b t x c → Dp K H (.ref b) x ∧ RepOk x k (28 * c)) {bs : List Addr} {ts : List Str} {xs : List PyData} {cs : Nat} (h : CardsOf R bs ts xs cs) :
    DpAll K H (bs.map V.ref) xs ∧ PyData.showableAll xs = true ∧ PyData.hasDictAll xs = false ∧ PyData.depthAll xs ≤ k ∧ PyData.leavesShortAll 400 xs = true ∧ PyData.canLayAll0 xs = true ∧ PyData.bulkAll xs ≤ 28 * cs + bs.length := by
  induction h with
  | nil => exact ⟨.nil, rfl, rfl, Nat.zero_le _, rfl, rfl, Nat.zero_le _⟩
  | cons a _ ih =>
    obtain ⟨i0, h1, h2, h3, h4, h6, h5⟩ := ih
    obtain ⟨d0, q⟩ := f _ _ _ _ a
    refine ⟨.cons d0 i0, ?_, ?_, ?_, ?_, ?_, ?_⟩
    · simp only [PyData.showableAll, q.sh, h1, Bool.and_self]
    · simp only [PyData.hasDictAll, q.nd, h2, Bool.or_self]
    · simp only [PyData.depthAll]
      exact Nat.max_le.mpr ⟨q.dp, h3⟩
    · simp only [PyData.leavesShortAll, q.lv, h4, Bool.and_self]
    · simp only [PyData.canLayAll0, q.cl, h6, Bool.and_self]
    · simp only [PyData.bulkAll, List.length_cons]
      have b := q.bk
      omega
theorem card_rep : ∀ (d : Nat) (a : Addr) (t : Str) (x : PyData) (c : Nat), CardAt K H d a t x c → Dp K H (.ref a) x ∧ RepOk x (2 * d) (28 * c)
  | 0, _, _, _, _, h => h.elim
  | d + 1, a, t, x, c, h => by
    have wd : ∀ s ∈ (["ring", "wait", "again", "row"] : List Str), TOk 5 s := by
      unfold TOk
      decide +kernel
    rcases h with ⟨e, o, h1, h2, h3, h4, h5, h6, h7⟩ | ⟨n, h1, h2, h3, h4, h5, h6⟩ | ⟨n, b, t', x', c', h1, h2, h3, h4, h5, h6, h7⟩ | ⟨q, bs, ts, xs, c', h1, h2, h3, h4, h5, h6, h7⟩
    · subst h6 h7
      exact ⟨.tup h1 (.cons (.str _) (.cons (.str _) (.cons (.int _) .nil))), ((RepOk.three (RepOk.tok (wd "ring" (by simp))) (RepOk.tok (engine_fits h2)) (RepOk.int (by omega))).mono (by omega) (by omega))⟩
    · subst h5 h6
      exact ⟨.tup h1 (.cons (.str _) (.cons (.int _) .nil)), ((RepOk.pair (RepOk.tok (wd "wait" (by simp))) (RepOk.int (by omega))).mono (by omega) (by omega))⟩
    · subst h6 h7
      obtain ⟨d0, r0⟩ := card_rep d _ _ _ _ h4
      exact ⟨.tup h1 (.cons (.str _) (.cons (.int _) (.cons d0 .nil))), ((RepOk.three ((RepOk.tok (wd "again" (by simp))).mono (Nat.zero_le _) (Nat.le_refl _)) ((RepOk.int (i := n) (by omega)).mono (Nat.zero_le _) (Nat.le_refl _)) r0).mono (by omega) (by omega))⟩
    · subst h6 h7
      obtain ⟨d0, e1, e2, e3, e4, e6, e5⟩ := cards_rep (card_rep d) h4
      exact ⟨.tup h1 (.cons (.str _) (.cons (.tup h2 d0) .nil)), ((RepOk.pair ((RepOk.tok (wd "row" (by simp))).mono (Nat.zero_le _) (Nat.le_refl _)) (RepOk.tupleS e1 e2 e3 e4 e6 e5)).mono (by omega) (by omega))⟩
end
end RO

namespace RO
open PySem PySem.Spec PyProof.Rows L2

/-! ### data with dicts of at most one pair in it, and no list -/
def keyD : Key → PyData
  | .inl i => .int i
  | .inr t => .str t
mutual
inductive Td (K : PySem.W.Frag) (H : Hp) : V → PyData → Prop
  | non : Td K H .non .none
  | bl (b : Bool) : Td K H (.bl b) (.bool b)
  | int (i : Int) : Td K H (.int i) (.int i)
  | str (t : Str) : Td K H (.str t) (.str t)
  | tup {a : Addr} {xs : List V} {ds : List PyData} : SqT K H a xs → TdAll K H xs ds → Td K H (.ref a) (.tuple ds)
  | d0 {a : Addr} : H a = some (.dK []) → Td K H (.ref a) (.dict [])
  | d1 {a : Addr} {k : Key} {x : V} {e : PyData} : H a = some (.dK [(k, x)]) → Td K H x e → Td K H (.ref a) (.dict [(keyD k, e)])
inductive TdAll (K : PySem.W.Frag) (H : Hp) : List V → List PyData → Prop
  | nil : TdAll K H [] []
  | cons {v : V} {vs : List V} {d : PyData} {ds : List PyData} : Td K H v d → TdAll K H vs ds → TdAll K H (v :: vs) (d :: ds)
end
section
variable {X : Cx} {pins : List (Addr × Obj)} {σ : L2.St} {H : Hp} {s : Shared}
theorem keyD_reads {k : Key} {v : Value} {h : Heap} (e : keyIs k v = true) : Reads h v (keyD k) [] := by
  rcases keyIs_shape e with ⟨i, t, rfl, rfl⟩ | ⟨x, t, rfl, rfl⟩
  · exact .int i t
  · exact .str x t
theorem sys_ne2 {a : Addr} (h : (a == sysModules) = false) : sysModules ≠ a := fun z => by
  rw [← z] at h
  simp at h
mutual
theorem Td.reads (I : Inv X pins σ H s) : ∀ (d : PyData) (v : V) (u : Value), Td X.K H v d → RelV v u → ∃ as, Reads s.heap u d as ∧ sysModules ∉ as
  | .none, _, _, h, r => by
    cases h
    cases r
    exact ⟨_, Reads.none, by simp⟩
  | .bool b, _, _, h, r => by
    cases h
    cases r
    exact ⟨_, Reads.bool b, by simp⟩
  | .int i, _, _, h, r => by
    cases h
    obtain ⟨t, rfl⟩ := r
    exact ⟨_, Reads.int i t, by simp⟩
  | .str x, _, _, h, r => by
    cases h
    obtain ⟨t, rfl⟩ := r
    exact ⟨_, Reads.str x t, by simp⟩
  | .list ds, _, _, h, r => by cases h
  | .tuple ds, _, _, h, r => by
    cases h with
    | tup hs ha =>
      cases r
      obtain ⟨its, rv, ⟨o, ho, hc, n, hd⟩, _⟩ := I.tuple hs
      obtain ⟨as, hr, hn⟩ := Td.readsAll I ds _ its ha rv
      exact ⟨_, Reads.tuple ho hc hd hr, hn⟩
  | .dict [], _, _, h, r => by
    cases h with
    | d0 ha =>
      cases r
      obtain ⟨_, hs, vs, rel, o, es, ep, ho, hx, hdat, hk, hp, _⟩ := dk_of I.hok ha
      cases rel
      have he : es.toList = [] := by
        have := hp.length
        exact List.eq_nil_of_length_eq_zero this
      exact ⟨_, Reads.dict ho hx.1 hdat (by rw [he]; exact .nil) (by rw [he]; exact .nil), by simpa using sys_ne2 hs⟩
  | .dict [(kd, e)], _, _, h, r => by
    cases h with
    | @d1 a k x _ ha hsc =>
      cases r
      obtain ⟨_, hs, vs, rel, o, es, ep, ho, hx, hdat, hk, hp, _⟩ := dk_of I.hok ha
      cases rel with
      | @cons _ qv _ _ r1 r2 =>
        cases r2
        obtain ⟨er, rx⟩ := r1
        generalize hes : es.toList = el at hp
        cases hp with
        | @cons en _ _ _ p1 p2 p3 =>
          cases p3
          have er : k = qv.1 := er
          have rx : RelV x qv.2 := rx
          obtain ⟨bs, rv, nv⟩ := Td.reads I e x qv.2 hsc rx
          have rv : Reads s.heap en.val e bs := by
            rw [p2]
            exact rv
          have rk : Reads s.heap en.key (keyD k) [] := by
            rw [er]
            exact keyD_reads p1
          exact ⟨_, Reads.dict ho hx.1 hdat (by rw [hes]; exact .cons rk .nil) (by rw [hes]; exact .cons rv .nil), by simpa using ⟨sys_ne2 hs, nv⟩⟩
  | .dict (_ :: _ :: _), _, _, h, _ => by cases h
theorem Td.readsAll (I : Inv X pins σ H s) : ∀ (ds : List PyData) (vs : List V) (us : List Value), TdAll X.K H vs ds → Vals vs us → ∃ as, ReadsAll s.heap us ds as ∧ sysModules ∉ as
  | [], _, _, h, r => by
    cases h
    cases r
    exact ⟨_, ReadsAll.nil, by simp⟩
  | d :: ds, _, _, h, r => by
    cases h with
    | cons h1 h2 =>
      cases r with
      | cons r1 r2 =>
        obtain ⟨as, q1, n1⟩ := Td.reads I d _ _ h1 r1
        obtain ⟨bs, q2, n2⟩ := Td.readsAll I ds _ _ h2 r2
        exact ⟨_, ReadsAll.cons q1 q2, by simpa using ⟨n1, n2⟩⟩
end
end
/-- shown data, whatever dicts are in it -/
structure RepD (d : PyData) (k n : Nat) : Prop where
  sh : d.showable = true
  dp : d.depth ≤ k
  lv : d.leavesShort 400 = true
  bk : d.bulk ≤ n
theorem RepD.of {d : PyData} {k n : Nat} (h : RepOk d k n) : RepD d k n := ⟨h.sh, h.dp, h.lv, h.bk⟩
theorem RepD.mono {d : PyData} {k n k' n' : Nat} (h : RepD d k n) (hk : k ≤ k') (hn : n ≤ n') : RepD d k' n' := ⟨h.sh, Nat.le_trans h.dp hk, h.lv, Nat.le_trans h.bk hn⟩
theorem RepD.fits {d : PyData} {k n : Nat} (h : RepD d k n) (hn : n ≤ 40000) : d.shown.length ≤ sizeLine := by
  have e := PyData.shown_le_bulk 400 (by decide) d h.lv
  have b := h.bk
  have : (400 + 2) * d.bulk ≤ 402 * 40000 := Nat.mul_le_mul (by decide) (by omega)
  rw [sizeLine_eq]
  omega
theorem repD_all {ds : List PyData} {k n : Nat} : (∀ d ∈ ds, RepD d k n) → PyData.showableAll ds = true ∧ PyData.depthAll ds ≤ k ∧ PyData.leavesShortAll 400 ds = true ∧ PyData.bulkAll ds ≤ ds.length * (n + 1) := by
  induction ds with
  | nil => intro _; exact ⟨rfl, Nat.zero_le _, rfl, Nat.zero_le _⟩
  | cons d r ih =>
    intro h
    obtain ⟨h1, h3, h4, h5⟩ := ih fun x hx => h x (List.mem_cons_of_mem _ hx)
    have q := h d (List.mem_cons_self ..)
    refine ⟨?_, ?_, ?_, ?_⟩
    · simp only [PyData.showableAll, q.sh, h1, Bool.and_self]
    · simp only [PyData.depthAll]
      exact Nat.max_le.mpr ⟨q.dp, h3⟩
    · simp only [PyData.leavesShortAll, q.lv, h4, Bool.and_self]
    · simp only [PyData.bulkAll, List.length_cons]
      have b := q.bk
      have e : (r.length + 1) * (n + 1) = r.length * (n + 1) + (n + 1) := Nat.succ_mul _ _
      omega
theorem RepD.tuple {ds : List PyData} {k n : Nat} (h : ∀ d ∈ ds, RepD d k n) : RepD (.tuple ds) (k + 1) (ds.length * (n + 1)) := by
  obtain ⟨h1, h3, h4, h5⟩ := repD_all h
  exact ⟨by simpa only [PyData.showable] using h1, by simp only [PyData.depth]; omega, by simpa only [PyData.leavesShort] using h4, by simpa only [PyData.bulk] using h5⟩
theorem RepD.d0 : RepD (.dict []) 1 0 := ⟨by simp [PyData.showable, PyData.showableKv], by simp [PyData.depth, PyData.depthKv], by simp [PyData.leavesShort, PyData.leavesShortKv], by simp [PyData.bulk, PyData.bulkKv]⟩
theorem RepD.d1 {a b : PyData} {k m n : Nat} (ha : RepD a k m) (hb : RepD b k n) : RepD (.dict [(a, b)]) (k + 1) (m + n + 2) := by
  refine ⟨?_, ?_, ?_, ?_⟩
  · simp [PyData.showable, PyData.showableKv, ha.sh, hb.sh]
  · have := ha.dp
    have := hb.dp
    simp [PyData.depth, PyData.depthKv]
    omega
  · simp [PyData.leavesShort, PyData.leavesShortKv, ha.lv, hb.lv]
  · have := ha.bk
    have := hb.bk
    simp [PyData.bulk, PyData.bulkKv]
    omega
/-- data, with small dicts in it or without -/
inductive Te (K : PySem.W.Frag) (H : Hp) : V → PyData → Prop
  | dp {v : V} {d : PyData} {k n : Nat} : Dp K H v d → RepOk d k n → k ≤ 40 → n ≤ 40000 → Te K H v d
  | td {a : Addr} {d : PyData} {k n : Nat} : Td K H (.ref a) d → RepD d k n → k ≤ 40 → n ≤ 40000 → Te K H (.ref a) d
mutual
theorem td_same {K : PySem.W.Frag} {H H1 : Hp} (s : Same H H1) : ∀ (d : PyData) (v : V), Td K H v d → Td K H1 v d
  | .none, _, h => by cases h; exact .non
  | .bool b, _, h => by cases h; exact .bl b
  | .int i, _, h => by cases h; exact .int i
  | .str x, _, h => by cases h; exact .str x
  | .list ds, _, h => by cases h
  | .tuple ds, _, h => by
    cases h with
    | tup hs ha => exact .tup (same_seqT s hs) (tdAll_same s ds _ ha)
  | .dict [], _, h => by
    cases h with
    | d0 ha => exact .d0 (s _ _ ha)
  | .dict [(kd, e)], _, h => by
    cases h with
    | d1 ha hx => exact .d1 (s _ _ ha) (td_same s e _ hx)
  | .dict (_ :: _ :: _), _, h => by cases h
theorem tdAll_same {K : PySem.W.Frag} {H H1 : Hp} (s : Same H H1) : ∀ (ds : List PyData) (vs : List V), TdAll K H vs ds → TdAll K H1 vs ds
  | [], _, h => by cases h; exact .nil
  | d :: ds, _, h => by
    cases h with
    | cons h1 h2 => exact .cons (td_same s d _ h1) (tdAll_same s ds _ h2)
end
theorem Te.same {K : PySem.W.Frag} {H H1 : Hp} {v : V} {d : PyData} (h : Te K H v d) (s : Same H H1) : Te K H1 v d := by
  cases h with
  | dp h1 h2 h3 h4 => exact .dp (dp_same s _ _ h1) h2 h3 h4
  | td h1 h2 h3 h4 => exact .td (td_same s _ _ h1) h2 h3 h4
def rRepr5 (K : PySem.W.Frag) : List V → Hp → VK → Prop := fun xs H Q => ∃ v d, xs = [v] ∧ Te K H v d ∧ Q (.str d.shown) H
theorem call_repr5 {X : Cx} (hG : X.A.guards = some []) (hu : X.A.units + 64 < cLine) : CallR X (.builtin "repr") (rRepr5 X.K) := by
  intro pins s σ H xs us Q I r h
  obtain ⟨v, d, e, hd, q⟩ := h
  cases hd with
  | dp h1 h2 h3 h4 => exact call_reprD hG hu pins s σ H xs us Q I r ⟨v, d, _, _, e, h1, h2, h3, h4, q⟩
  | @td a _ k n h1 h2 h3 h4 =>
    subst e
    rw [Vals.ref1 r]
    obtain ⟨as, rd, nos⟩ := Td.reads I d (.ref a) (.ref a) h1 rfl
    have fin : ∀ (h' : Heap) (u : Tok) (tk : Nat), (∀ b o, s.heap.get? b = some o → h'.get? b = some o) → EP X pins σ Q (.str d.shown u) { s with heap := h', toks := tk } :=
      fun h' u tk hk => ⟨.str d.shown, H, I.un (Un.kept hk) (I.hok.kept hk), ⟨u, rfl⟩, q⟩
    have dp := h2.dp
    exact repr_of_reads' rd h2.sh (fun _ => nos) hG (by omega) (fun _ _ z => z) fin (h2.fits h4)
theorem k_repr5 (K : PySem.W.Frag) {X : Cx} (hG : X.A.guards = some []) (hu : X.A.units + 64 < cLine) (h : X.K = K := by rfl) : CallR X (.builtin "repr") (rRepr5 K) := by
  subst h
  exact call_repr5 hG hu
end RO

namespace RO
open PySem PySem.Spec PyProof.Rows L2

/-! ### a tuple of three, turned about -/
section
variable {prog : Program} {w : World} {A : Around} {E : Value → Shared → Prop} {s : Shared}
theorem rev3_applied {sl : Addr} {k : Tok} {Q : Int × Int × Nat → Shared → Prop} (hs : s.heap.IsSliceOf sl .none .none (.int (-1) k)) (h : Q (2, -1, 3) s) : wpAny (model prog w) A (Builtin.Slice.sliceApplied (.ref sl) (pure ((3 : Nat) : Int))) Q E s := by
  obtain ⟨o, e1, e2, e3⟩ := id hs
  unfold Builtin.Slice.sliceApplied Builtin.Slice.sliceFields
  refine wpAny_bind (wpAny_bind (wpAny_field e1 e3 (x := .none) rfl (wpAny_bind (wpAny_field e1 e3 (x := .none) rfl (wpAny_bind (wpAny_field e1 e3 (x := .int (-1) k) rfl (wpAny_pure ?_)))))))
  refine wpAny_bind (HT.slicePart_ (.int (-1) k) ?_)
  show wpAny _ _ (if ((-1 : Int) == 0) = true then _ else _) _ _ s
  rw [if_neg (by decide)]
  refine wpAny_bind (HT.slicePart_ .none (wpAny_bind (HT.slicePart_ .none (wpAny_bind (wpAny_pure ?_)))))
  exact wpAny_of_eq (a := ((2 : Int), (-1 : Int), (3 : Nat))) rfl h
theorem rev3_get {t sl : Addr} {a b c : Value} {k : Tok} {Q : Value → Shared → Prop} (ht : IsTup s.heap t [a, b, c].toArray) (hs : s.heap.IsSliceOf sl .none .none (.int (-1) k))
    (h : Q (.ref s.heap.objs.size) { s with heap := s.heap.push { cls := .type "tuple", data := .seq [c, b, a].toArray } }) : wpAny (model prog w) A (getItem (.ref t) (.ref sl)) Q E s := by
  obtain ⟨o, e1, e2, e3⟩ := id hs
  have ty : s.TypeIs (.ref sl) "slice" := ⟨o, e1, e2⟩
  unfold getItem
  try with_reducible refine wpAny_holding ?_
  first | refine wpAny_bind (wpAny_pure ?_) | skip
  refine wpAny_bind (wpAny_sequenceKey ht.typeIs (by decide) ?_)
  refine wpAny_bind (wpAny_callSpecial?_slot (name := Str.ofString "__getitem__") ht.typeIs PyProof.Rows.slot_tuple_getitem (wpAny_call_entry PyProof.Rows.slot_tuple_getitem ht.typeIs entry_tuple_getitem ?_ (args_tuple_getitem _ _)))
  show wpAny _ _ (Builtin.Tuple.tupleItemsOf (.ref t) >>= _) _ _ s
  refine wpAny_bind (tupleItemsOf_ ht ?_)
  refine wpAny_bind (wpAny_typeOf ty ?_)
  rw [if_pos (by decide)]
  refine wpAny_bind (rev3_applied hs ?_)
  show wpAny _ _ (if (((2 : Int) == 0 && (-1 : Int) == 1 && (3 : Nat) == 3) = true) then _ else _) _ _ s
  rw [if_neg (by decide)]
  have fit : sizeOk (.seq [c, b, a].toArray) := by show 3 ≤ sizeLine; decide
  have e : ((List.range 3).filterMap fun (m : Nat) => ([a, b, c].toArray)[((2 : Int) + (m : Int) * -1).toNat]?).toArray = [c, b, a].toArray := rfl
  rw [e]
  first
    | exact wpAny_bind (m := Builtin.Tuple.tupleExact _) (wpAny_newObj_type (wpAny_pure ⟨_, rfl, wpAny_pure h⟩) fit)
    | exact wpAny_bind (m := Builtin.Tuple.tupleExact _) (wpAny_newObj_type (wpAny_bind (wpAny_pure (wpAny_pure ⟨_, rfl, wpAny_pure h⟩))) fit)
    | exact wpAny_bind (wpAny_bind (m := Builtin.Tuple.tupleExact _) (wpAny_newObj_type (wpAny_pure (wpAny_pure ⟨_, rfl, wpAny_pure h⟩)) fit))
    | exact wpAny_bind (wpAny_bind (m := Builtin.Tuple.tupleExact _) (wpAny_newObj_type (wpAny_pure ⟨_, rfl, wpAny_pure h⟩) fit))
end
def tRev3 (K : PySem.W.Frag) (te : TE) : TE := fun σ H Q => te σ H fun v H1 => ∃ a x y z, v = .ref a ∧ SqT K H1 a [x, y, z] ∧ ∀ p, H1 p = none → Q (.ref p) (upd H1 p (.tup [z, y, x]))
theorem pe_rev3 (K : PySem.W.Frag) {X : Cx} {e : Expr} {te : TE} {k : Nat} {p1 p2 p3 pos : Pos} (he : PE X e te) (hK : X.K = K := by rfl) : PE X (.Subscript e (.Slice none none (some (.UnaryOp .USub (.Constant (.int 1) k p1) p2)) p3) pos) (tRev3 K te) := by
  subst hK
  refine ⟨fun pins s σ H Q I h => ?_⟩
  refine Subscript_ (thn (he.run pins s σ H _ I h) fun v s1 ⟨x0, H1, I1, r1, q1⟩ => ?_)
  obtain ⟨a, x, y, z, ex, hx, q⟩ := q1
  subst ex
  cases r1
  have hst : PO X (some (.UnaryOp .USub (.Constant (.int 1) k p1) p2)) (tPart (tUn (rU fun i => .int (-i)) (tC (.int 1)))) := po_some (pe_un un_neg pe_int)
  refine wpAny_Slice (thn (po_none.run pins s1 σ H1 (fun o H2 => o = none ∧ H2 = H1) I1 ⟨rfl, rfl⟩) fun vl s2 ⟨l, H2, I2, pl, el, e2⟩ => ?_)
  subst el e2
  cases pl
  refine thn (po_none.run pins s2 σ H2 (fun o H3 => o = none ∧ H3 = H2) I2 ⟨rfl, rfl⟩) fun vu s3 ⟨u, H3, I3, pu, eu, e3⟩ => ?_
  subst eu e3
  cases pu
  refine thn (hst.run pins s3 σ H3 (fun o H4 => o = some (-1) ∧ H4 = H3) I3 ⟨1, rfl, -1, rfl, rfl, rfl⟩) fun vs s4 ⟨o, H4, I4, ps, eo, e4⟩ => ?_
  subst eo e4
  obtain ⟨tk, rfl⟩ : ∃ tk, vs = .int (-1) tk := by
    cases ps
    exact ⟨_, rfl⟩
  have I5 : Inv X pins σ H4 { s4 with heap := s4.heap.push { cls := .type "slice", data := .fields #[.none, .none, .int (-1) tk] } } := I4.kept (t' := s4.toks) fun b ob q => Heap.get?_push_of_some _ q
  obtain ⟨its, r, ht, hz⟩ := I5.tuple hx
  obtain ⟨u1, u2, u3, rfl, q1, q2, q3⟩ : ∃ u1 u2 u3, its = [u1, u2, u3] ∧ RelV x u1 ∧ RelV y u2 ∧ RelV z u3 := by
    cases r with
    | cons p q =>
      cases q with
      | cons p' q' =>
        cases q' with
        | cons p'' q'' =>
          cases q''
          exact ⟨_, _, _, rfl, p, p', p''⟩
  show wpAny (model X.prog X.w) X.A (subscriptTail e (.Slice none none (some (.UnaryOp .USub (.Constant (.int 1) k p1) p2)) p3) (.ref a) (.ref s4.heap.objs.size)) (EP X pins σ Q) X.xe { s4 with heap := s4.heap.push { cls := .type "slice", data := .fields #[.none, .none, .int (-1) tk] } }
  refine tail_any (ops := [.ref a, .ref s4.heap.objs.size]) ht.typeIs (PyProof.Rows.slot_tuple_getitem.lookup) ?_ (by with_unfolding_all rfl)
  refine rev3_get ht (Heap.IsSliceOf.new _ .none .none (.int (-1) tk)) ?_
  refine ⟨.ref _, _, I5.laid (t' := s4.toks) (o := .tup [z, y, x]) (fun b ob q => Heap.get?_push_of_some _ q) (Nat.le_refl _) ?_, rfl, q _ (I5.hok.fresh (Nat.le_refl _))⟩
  exact ⟨by show 3 ≤ sizeLine; decide, _, .cons q3 (.cons q2 (.cons q1 .nil)), IsTup.new _ _⟩
end RO

namespace RO
open PySem PySem.Spec PyProof.Rows L2

/-! ### a tuple, turned about -/
theorem back_snoc {α : Type} {p : List α → Prop} (h0 : p []) (h1 : ∀ l a, p l → p (l ++ [a])) : ∀ l, p l := fun l => by
  have : ∀ l : List α, p l.reverse := fun l => by
    induction l with
    | nil => exact h0
    | cons a l ih =>
      rw [List.reverse_cons]
      exact h1 _ _ ih
  have z := this l.reverse
  rw [List.reverse_reverse] at z
  exact z
theorem fm_cong {α β : Type} {f g : α → Option β} : ∀ {l : List α}, (∀ x ∈ l, f x = g x) → l.filterMap f = l.filterMap g
  | [], _ => rfl
  | x :: l, h => by
    rw [List.filterMap_cons, List.filterMap_cons, h x (List.mem_cons_self ..), fm_cong fun y hy => h y (List.mem_cons_of_mem _ hy)]
theorem back_all {α : Type} (l : List α) : (List.range l.length).filterMap (fun m => l[l.length - 1 - m]?) = l.reverse := by
  refine back_snoc (p := fun l => (List.range l.length).filterMap (fun m => l[l.length - 1 - m]?) = l.reverse) rfl (fun l a ih => ?_) l
  rw [List.length_append, List.reverse_append]
  show (List.range (l.length + 1)).filterMap (fun m => (l ++ [a])[l.length + 1 - 1 - m]?) = a :: l.reverse
  rw [List.range_succ_eq_map, List.filterMap_cons]
  have e0 : (l ++ [a])[l.length + 1 - 1 - 0]? = some a := by
    rw [show l.length + 1 - 1 - 0 = l.length by omega, List.getElem?_append_right (Nat.le_refl _), Nat.sub_self]
    rfl
  rw [e0, List.filterMap_map, ← ih]
  show a :: _ = a :: _
  congr 1
  refine fm_cong fun m hm => ?_
  have hm := List.mem_range.mp hm
  show (l ++ [a])[l.length + 1 - 1 - (m + 1)]? = _
  rw [List.getElem?_append_left (by omega), show l.length + 1 - 1 - (m + 1) = l.length - 1 - m by omega]
theorem back_pick (xs : Array Value) : ((List.range xs.size).filterMap fun (m : Nat) => xs[(((xs.size : Int) - 1) + (m : Int) * -1).toNat]?).toArray = xs.toList.reverse.toArray := by
  rw [← back_all]
  congr 1
  rw [Array.length_toList]
  refine fm_cong fun m hm => ?_
  have hm := List.mem_range.mp hm
  rw [show (((xs.size : Int) - 1) + (m : Int) * -1).toNat = xs.size - 1 - m by omega]
  simp
section
variable {prog : Program} {w : World} {A : Around} {E : Value → Shared → Prop} {s : Shared}
theorem back_applied {sl : Addr} {k : Tok} {n : Nat} {Q : Int × Int × Nat → Shared → Prop} (hs : s.heap.IsSliceOf sl .none .none (.int (-1) k)) (h : Q ((n : Int) - 1, -1, n) s) : wpAny (model prog w) A (Builtin.Slice.sliceApplied (.ref sl) (pure (n : Int))) Q E s := by
  obtain ⟨o, e1, e2, e3⟩ := id hs
  unfold Builtin.Slice.sliceApplied Builtin.Slice.sliceFields
  refine wpAny_bind (wpAny_bind (wpAny_field e1 e3 (x := .none) rfl (wpAny_bind (wpAny_field e1 e3 (x := .none) rfl (wpAny_bind (wpAny_field e1 e3 (x := .int (-1) k) rfl (wpAny_pure ?_)))))))
  refine wpAny_bind (HT.slicePart_ (.int (-1) k) ?_)
  show wpAny _ _ (if ((-1 : Int) == 0) = true then _ else _) _ _ s
  rw [if_neg (by decide)]
  refine wpAny_bind (HT.slicePart_ .none (wpAny_bind (HT.slicePart_ .none (wpAny_bind (wpAny_pure ?_)))))
  refine wpAny_of_eq (a := ((n : Int) - 1, (-1 : Int), n)) ?_ h
  have pl : Builtin.Slice.slicePlaces ((n : Int) - 1) (-1) (-1) = n := by
    unfold Builtin.Slice.slicePlaces
    rw [if_neg (by decide)]
    by_cases z : n = 0
    · subst z
      rfl
    · rw [if_pos (by omega)]
      have : ((n : Int) - 1 - -1 - 1) / -(-1) = (n : Int) - 1 := by
        rw [show -(-1 : Int) = 1 from rfl, Int.ediv_one]
        omega
      rw [this]
      omega
  show (pure (((n : Int) - 1), (-1 : Int), Builtin.Slice.slicePlaces ((n : Int) - 1) (-1) (-1)) : Sem (Int × Int × Nat)) = _
  rw [pl]
theorem back_get {t sl : Addr} {xs : Array Value} {k : Tok} {Q : Value → Shared → Prop} (ht : IsTup s.heap t xs) (hs : s.heap.IsSliceOf sl .none .none (.int (-1) k)) (hz : xs.size ≤ sizeLine)
    (h : Q (.ref s.heap.objs.size) { s with heap := s.heap.push { cls := .type "tuple", data := .seq xs.toList.reverse.toArray } }) : wpAny (model prog w) A (getItem (.ref t) (.ref sl)) Q E s := by
  obtain ⟨o, e1, e2, e3⟩ := id hs
  have ty : s.TypeIs (.ref sl) "slice" := ⟨o, e1, e2⟩
  unfold getItem
  try with_reducible refine wpAny_holding ?_
  first | refine wpAny_bind (wpAny_pure ?_) | skip
  refine wpAny_bind (wpAny_sequenceKey ht.typeIs (by decide) ?_)
  refine wpAny_bind (wpAny_callSpecial?_slot (name := Str.ofString "__getitem__") ht.typeIs PyProof.Rows.slot_tuple_getitem (wpAny_call_entry PyProof.Rows.slot_tuple_getitem ht.typeIs entry_tuple_getitem ?_ (args_tuple_getitem _ _)))
  show wpAny _ _ (Builtin.Tuple.tupleItemsOf (.ref t) >>= _) _ _ s
  refine wpAny_bind (tupleItemsOf_ ht ?_)
  refine wpAny_bind (wpAny_typeOf ty ?_)
  rw [if_pos (by decide)]
  refine wpAny_bind (back_applied hs ?_)
  show wpAny _ _ (if ((((xs.size : Int) - 1) == 0 && (-1 : Int) == 1 && xs.size == xs.size) = true) then _ else _) _ _ s
  rw [if_neg (by rw [show ((-1 : Int) == 1) = false from rfl, Bool.and_false, Bool.false_and]; exact Bool.false_ne_true)]
  have fit : sizeOk (.seq xs.toList.reverse.toArray) := by
    show xs.toList.reverse.toArray.size ≤ sizeLine
    rw [List.size_toArray, List.length_reverse, Array.length_toList]
    exact hz
  rw [back_pick]
  first
    | exact wpAny_bind (m := Builtin.Tuple.tupleExact _) (wpAny_newObj_type (wpAny_pure ⟨_, rfl, wpAny_pure h⟩) fit)
    | exact wpAny_bind (m := Builtin.Tuple.tupleExact _) (wpAny_newObj_type (wpAny_bind (wpAny_pure (wpAny_pure ⟨_, rfl, wpAny_pure h⟩))) fit)
    | exact wpAny_bind (wpAny_bind (m := Builtin.Tuple.tupleExact _) (wpAny_newObj_type (wpAny_pure (wpAny_pure ⟨_, rfl, wpAny_pure h⟩)) fit))
    | exact wpAny_bind (wpAny_bind (m := Builtin.Tuple.tupleExact _) (wpAny_newObj_type (wpAny_pure ⟨_, rfl, wpAny_pure h⟩) fit))
end
def tRevU (K : PySem.W.Frag) (te : TE) : TE := fun σ H Q => te σ H fun v H1 => ∃ a xs, v = .ref a ∧ SqT K H1 a xs ∧ ∀ p, H1 p = none → Q (.ref p) (upd H1 p (.tup xs.reverse))
theorem pe_revU (K : PySem.W.Frag) {X : Cx} {e : Expr} {te : TE} {k : Nat} {p1 p2 p3 pos : Pos} (he : PE X e te) (hK : X.K = K := by rfl) : PE X (.Subscript e (.Slice none none (some (.UnaryOp .USub (.Constant (.int 1) k p1) p2)) p3) pos) (tRevU K te) := by
  subst hK
  refine ⟨fun pins s σ H Q I h => ?_⟩
  refine Subscript_ (thn (he.run pins s σ H _ I h) fun v s1 ⟨x0, H1, I1, r1, q1⟩ => ?_)
  obtain ⟨a, xs, ex, hx, q⟩ := q1
  subst ex
  cases r1
  have hst : PO X (some (.UnaryOp .USub (.Constant (.int 1) k p1) p2)) (tPart (tUn (rU fun i => .int (-i)) (tC (.int 1)))) := po_some (pe_un un_neg pe_int)
  refine wpAny_Slice (thn (po_none.run pins s1 σ H1 (fun o H2 => o = none ∧ H2 = H1) I1 ⟨rfl, rfl⟩) fun vl s2 ⟨l, H2, I2, pl, el, e2⟩ => ?_)
  subst el e2
  cases pl
  refine thn (po_none.run pins s2 σ H2 (fun o H3 => o = none ∧ H3 = H2) I2 ⟨rfl, rfl⟩) fun vu s3 ⟨u, H3, I3, pu, eu, e3⟩ => ?_
  subst eu e3
  cases pu
  refine thn (hst.run pins s3 σ H3 (fun o H4 => o = some (-1) ∧ H4 = H3) I3 ⟨1, rfl, -1, rfl, rfl, rfl⟩) fun vs s4 ⟨o, H4, I4, ps, eo, e4⟩ => ?_
  subst eo e4
  obtain ⟨tk, rfl⟩ : ∃ tk, vs = .int (-1) tk := by
    cases ps
    exact ⟨_, rfl⟩
  have I5 : Inv X pins σ H4 { s4 with heap := s4.heap.push { cls := .type "slice", data := .fields #[.none, .none, .int (-1) tk] } } := I4.kept (t' := s4.toks) fun b ob q => Heap.get?_push_of_some _ q
  obtain ⟨its, r, ht, hz⟩ := I5.tuple hx
  have hl := r.length
  show wpAny (model X.prog X.w) X.A (subscriptTail e (.Slice none none (some (.UnaryOp .USub (.Constant (.int 1) k p1) p2)) p3) (.ref a) (.ref s4.heap.objs.size)) (EP X pins σ Q) X.xe { s4 with heap := s4.heap.push { cls := .type "slice", data := .fields #[.none, .none, .int (-1) tk] } }
  refine tail_any (ops := [.ref a, .ref s4.heap.objs.size]) ht.typeIs (PyProof.Rows.slot_tuple_getitem.lookup) ?_ (by with_unfolding_all rfl)
  refine back_get ht (Heap.IsSliceOf.new _ .none .none (.int (-1) tk)) (by rw [List.size_toArray]; omega) ?_
  refine ⟨.ref _, _, I5.laid (t' := s4.toks) (o := .tup xs.reverse) (fun b ob q => Heap.get?_push_of_some _ q) (Nat.le_refl _) ?_, rfl, q _ (I5.hok.fresh (Nat.le_refl _))⟩
  exact ⟨by rw [List.length_reverse]; exact hz, _, r.reverse, IsTup.new _ _⟩
/-! ### a tuple taken once or oftener -/
theorem once_mul (l : Addr) (items : Array Value) (n : Nat) (dd : Option Addr) (sl : Array (Option Value)) (u : Tok) :
    Meets (Builtin.«tuple.__mul__» ⟨[.ref l, .int 1 u], []⟩) (fun _ R s => s.heap.get? l = some { cls := .type "tuple", dict := dd, data := .seq items n, slots := sl } ∧ R (.ok (.ret (.ref l))) s) :=
  .of_wp fun prog w A R s h => by
    obtain ⟨hp, g, d, tk, os⟩ := s
    obtain ⟨hl, h⟩ := h
    have f1 := AutoSeq1.idx_int
    wp_walk using wpAny_loadPart' hl
    exact ⟨_, rfl, h⟩
def rRepU (K : PySem.W.Frag) : R2 := fun x y H Q => ∃ l k xs, x = .ref l ∧ y = .int k ∧ SqT K H l xs ∧ xs ≠ [] ∧ 1 ≤ k ∧ k ≤ 1000 ∧ xs.length ≤ 1000 ∧ ∀ q H', Same H H' → SqT K H' q (List.replicate k.toNat xs).flatten → Q (.ref q) H'
theorem k_repU (K : PySem.W.Frag) {X : Cx} (h : X.K = K := by rfl) : OpR X (binaryOp .Mult) (rRepU K) := by
  subst h
  intro pins s σ H x y v u Q I rx ry h
  obtain ⟨l, k, xs, rfl, rfl, hT, hne, h1, h2, hz, q⟩ := h
  by_cases k1 : k = 1
  · subst k1
    cases rx
    obtain ⟨t, rfl⟩ := ry
    obtain ⟨its, r, ⟨⟨cls, dd, data, sl⟩, ho, hc, n, hd⟩, hs⟩ := I.tuple hT
    simp only at hc hd
    subst hc hd
    refine wpAny_binaryOp_repeat_ref (T := "tuple") (U := "int") (by decide) ⟨_, ho, rfl⟩ (fun s' => typeIs_int s' 1 t) L2.noFill_tuple_mul F.fills_int_mul F.slot_int_rmul L2.repeat_tuple F.slot_int_index.lookup
      (call_meets F.slot_int_rmul (typeIs_int s 1 t) F.entry_int_rmul (F.args_int_rmul_2 _ _) (L2.int_rmul_tuple 1 t l its.toArray n dd sl)
        ⟨ho, rfl, ⟨_, ho, rfl⟩, call_meets F.slot_tuple_mul ⟨_, ho, rfl⟩ F.entry_tuple_mul (F.args_tuple_mul_2 _ _) (once_mul l its.toArray n dd sl t) ⟨ho, ?_⟩⟩)
    have e : (List.replicate (1 : Int).toNat xs).flatten = xs := by
      show xs ++ [] = xs
      rw [List.append_nil]
    exact ⟨.ref l, H, I, rfl, q l H (Same.refl _) (by rw [e]; exact hT)⟩
  · exact op_repT pins s σ H _ _ v u Q I rx ry ⟨l, k, xs, rfl, rfl, hT, hne, by omega, h2, hz, fun p hp => q p _ (same_new (Same.refl _) hp) (SqT.of upd_same)⟩
end RO

namespace RO
open PySem PySem.Spec PyProof.Rows L2

/-! ### dict(enumerate(t)), t a tuple -/
section
variable {prog : Program} {w : World} {A : Around} {E : Value → Shared → Prop} {s : Shared}
theorem next_heldT {e it l T : Addr} {i : Nat} {items : Array Value} {x old : Value} {f : Bool} {oT : Obj} {Q : Value → Shared → Prop}
    (he : IsEnumHeld s.heap e it (i : Int) old T f) (hT : s.heap.get? T = some oT) (hTe : T ≠ e) (hTi : T ≠ it) (hit : s.heap.IsTupleIter it l i) (hl : s.heap.IsTuple l items) (hx : items[i]? = some x) (hne : e ≠ it)
    (hQ : ∀ h', IsEnumHeld h' e it ((i : Int) + 1) old T true → h'.IsTupleIter it l (i + 1) → h'.get? s.heap.objs.size = some { cls := .type "tuple", data := .seq #[.int (i : Int) s.toks, x] } → h'.objs.size = s.heap.objs.size + 1 →
      (∀ b o, b ≠ e → b ≠ it → s.heap.get? b = some o → h'.get? b = some o) → Q (.ref s.heap.objs.size) { s with heap := h', toks := s.toks + 1 }) :
    wpAny (model prog w) A (Builtin.«enumerate.__next__» ⟨[.ref e], []⟩) (fun fin s' => ∃ v, fin = .done (.ret v) ∧ Q v s') E s := by
  obtain ⟨hp, g, d, tk, os⟩ := s
  unfold Builtin.«enumerate.__next__»
  show wpAny _ _ (field (.ref e) 2 >>= _) _ _ _
  refine wpAny_bind (wpAny_field he rfl rfl (wpAny_bind (RZ.nextOf_tuple_item hit hl hx fun h₁ hit₁ hs₁ => ?_)))
  have he₁ := (hs₁.2 e hne).trans he
  refine wpAny_bind (wpAny_field he₁ rfl rfl ?_)
  refine wpAny_bind (wpAny_field he₁ rfl rfl ?_)
  refine wpAny_bind (wpAny_mkInt ?_)
  refine wpAny_bind (wpAny_setField_rec he₁ (by show 3 < 6; decide) fun h₂ he₂ hs₂ => ?_)
  refine wpAny_bind (wpAny_setField_rec he₂ (by show 4 < 6; decide) fun h₃ he₃ hs₃ => ?_)
  refine wpAny_bind (wpAny_newTuple ?_ (by show 2 ≤ sizeLine; decide))
  have hsz : h₃.objs.size = hp.objs.size := hs₃.1.trans (hs₂.1.trans hs₁.1)
  have he₄ := Heap.get?_push_of_some { cls := .type "tuple", data := .seq #[.int (i : Int) tk, x] } he₃
  have hel : e < hp.objs.size := Heap.lt_size he
  have ht₄ : (h₃.push { cls := .type "tuple", data := .seq #[.int (i : Int) tk, x] }).get? hp.objs.size = some { cls := .type "tuple", data := .seq #[.int (i : Int) tk, x] } := by
    rw [← hsz]
    exact Heap.get?_push_size h₃ rfl
  have hz₄ : (h₃.push { cls := .type "tuple", data := .seq #[.int (i : Int) tk, x] }).objs.size = hp.objs.size + 1 := by
    rw [Heap.size_push, hsz]
  have hk₄ : ∀ b o, b ≠ e → b ≠ it → hp.get? b = some o → (h₃.push { cls := .type "tuple", data := .seq #[.int (i : Int) tk, x] }).get? b = some o := fun b o hbe hbi hb =>
    Heap.get?_push_of_some _ (Heap.SameBut.extBut hs₃ b o hbe (Heap.SameBut.extBut hs₂ b o hbe (Heap.SameBut.extBut hs₁ b o hbi hb)))
  have hit₄ : (h₃.push { cls := .type "tuple", data := .seq #[.int (i : Int) tk, x] }).IsTupleIter it l (i + 1) := by
    obtain ⟨o, ho, r⟩ := hit₁
    exact ⟨o, Heap.get?_push_of_some _ (Heap.SameBut.extBut hs₃ it o (Ne.symm hne) (Heap.SameBut.extBut hs₂ it o (Ne.symm hne) ho)), r⟩
  show wpAny _ _ (Builtin.SmallTypes.ownedTupleIsFree (.ref e) >>= _) _ _ _
  refine wpAny_bind (wpAny_tupleHeld_enum he₄ (hk₄ T oT hTe hTi hT) fun h₅ he₅ hs₅ => ?_)
  rw [if_neg Bool.false_ne_true]
  show wpAny _ _ (ret (.ref h₃.objs.size)) _ _ _
  rw [hsz]
  refine wpAny_pure ⟨_, rfl, hQ h₅ he₅ ?_ (Heap.SameBut.extBut hs₅ _ _ (Nat.ne_of_gt hel) ht₄) (hs₅.1.trans hz₄) fun b o hbe hbi hb => Heap.SameBut.extBut hs₅ b o hbe (hk₄ b o hbe hbi hb)⟩
  obtain ⟨o, ho, r⟩ := hit₄
  exact ⟨o, Heap.SameBut.extBut hs₅ it o (Ne.symm hne) ho, r⟩
theorem pyNext_heldT {e it l T : Addr} {i : Nat} {items : Array Value} {x old : Value} {f : Bool} {oT : Obj} {Q : Option Value → Shared → Prop}
    (he : IsEnumHeld s.heap e it (i : Int) old T f) (hT : s.heap.get? T = some oT) (hTe : T ≠ e) (hTi : T ≠ it) (hit : s.heap.IsTupleIter it l i) (hl : s.heap.IsTuple l items) (hx : items[i]? = some x) (hne : e ≠ it)
    (hQ : ∀ h', IsEnumHeld h' e it ((i : Int) + 1) old T true → h'.IsTupleIter it l (i + 1) → h'.get? s.heap.objs.size = some { cls := .type "tuple", data := .seq #[.int (i : Int) s.toks, x] } → h'.objs.size = s.heap.objs.size + 1 →
      (∀ b o, b ≠ e → b ≠ it → s.heap.get? b = some o → h'.get? b = some o) → Q (some (.ref s.heap.objs.size)) { s with heap := h', toks := s.toks + 1 }) :
    wpAny (model prog w) A (pyNext (.ref e)) Q E s :=
  have hTy : s.TypeIs (.ref e) "enumerate" := ⟨_, he, rfl⟩
  wpAny_bind (wpAny_attempt (wpAny_callSpecial?_slot hTy F.slot_enumerate_next (wpAny_call_entry F.slot_enumerate_next hTy F.entry_enumerate_next
    (next_heldT he hT hTe hTi hit hl hx hne fun h' a1 a2 a3 a4 a5 => wpAny_pure (hQ h' a1 a2 a3 a4 a5)) (F.args_enumerate_next_1 (.ref e)))))
theorem pyNext_endT {e it l T : Addr} {i : Nat} {items : Array Value} {old : Value} {f : Bool} {Q : Option Value → Shared → Prop} (hh : A.handled = none)
    (he : IsEnumHeld s.heap e it (i : Int) old T f) (hit : s.heap.IsTupleIter it l i) (hl : s.heap.IsTuple l items) (hx : items[i]? = none)
    (hQ : ∀ h', Heap.ExtBut it s.heap h' → Q none { s with heap := h' }) : wpAny (model prog w) A (pyNext (.ref e)) Q E s := by
  have hTy : s.TypeIs (.ref e) "enumerate" := ⟨_, he, rfl⟩
  refine wpAny_bind (wpAny_attempt (wpAny_callSpecial?_slot hTy F.slot_enumerate_next (wpAny_call_entry F.slot_enumerate_next hTy F.entry_enumerate_next ?_ (F.args_enumerate_next_1 (.ref e)))))
  unfold Builtin.«enumerate.__next__»
  show wpAny _ _ (field (.ref e) 2 >>= _) _ _ _
  refine wpAny_bind (wpAny_field he rfl rfl (wpAny_bind (RZ.nextOf_tuple_end hh hit hl hx fun h' x he' hx' => ?_)))
  obtain ⟨o, ho, hc⟩ := hx'
  exact wpAny_bind (wpAny_isInstance ⟨o, ho, hc⟩ isSubtype_stop (wpAny_pure (hQ h' he')))
end
theorem arg_enumT {prog : Program} {w : World} (e it l : Addr) (hei : e ≠ it) (hle : l ≠ e) (hli : l ≠ it) (items : Array Value) :
    PairArg prog w "enumerate" e [e, it, l] [e, it] items.size (fun i k v => (∃ t, k = Value.int (i : Int) t) ∧ items[i]? = some v) fun h => (∃ old, IsEnum h e it 0 old) ∧ h.IsTupleIter it l 0 ∧ h.IsTuple l items where
  type := fun s ok => by
    obtain ⟨⟨_, he⟩, _⟩ := ok
    exact ⟨_, he, rfl⟩
  notDict := by decide
  keep := fun h h' ok hk => by
    obtain ⟨⟨old, he⟩, hit, o, ho, r⟩ := ok
    exact ⟨⟨old, hk _ _ he⟩, Heap.IsTupleIter.at hit fun o x => hk it o x, o, hk _ _ ho, r⟩
  there := fun h ok b hb => by
    obtain ⟨⟨old, he⟩, ⟨o1, h1, _⟩, o, ho, r⟩ := ok
    simp only [List.mem_cons, List.not_mem_nil, or_false] at hb
    rcases hb with z | z | z <;> subst z
    · exact ⟨_, he⟩
    · exact ⟨_, h1⟩
    · exact ⟨_, ho⟩
  sub := fun b hb => by
    simp only [List.mem_cons, List.not_mem_nil, or_false] at hb ⊢
    rcases hb with z | z
    · exact .inl z
    · exact .inr (.inl z)
  noKeys := fun A s Q E hA ok h => by
    obtain ⟨⟨_, he⟩, _⟩ := ok
    exact getAttrOr_miss_enumerate he rfl rfl rfl enumerate_no_keys (by decide) hA h (by decide +kernel)
  iter := fun A s d Q E hA ok hd hdf h => by
    obtain ⟨⟨old, he⟩, hit, hl⟩ := ok
    simp only [List.mem_cons, List.not_mem_nil, or_false, not_or] at hdf
    obtain ⟨de, dit, dl⟩ := hdf
    refine wpAny_pyIter_enum he (h e [e, it] (fun i h => h.IsTupleIter it l i ∧ h.IsTuple l items ∧ ((∃ old, IsEnum h e it ((i : Nat) : Int) old) ∨ ∃ old T f oT, IsEnumHeld h e it ((i : Nat) : Int) old T f ∧ h.get? T = some oT ∧ T ≠ e ∧ T ≠ it ∧ T ≠ d)) s.heap s.toks ?_ ⟨hit, hl, .inl ⟨old, he⟩⟩ (fun _ _ x => x) fun b hb => .inl hb)
    have tupKeep : ∀ {h1 h2 : Heap}, h1.IsTuple l items → (∀ o, h1.get? l = some o → h2.get? l = some o) → h2.IsTuple l items := fun ⟨o, ho, r⟩ k => ⟨o, k o ho, r⟩
    refine ⟨?_, ?_, ?_, ?_⟩
    · intro hm
      simp only [List.mem_cons, List.not_mem_nil, or_false] at hm
      rcases hm with z | z
      · exact de z
      · exact dit z
    · rintro i h1 h2 ⟨hit, hl, st⟩ hk
      refine ⟨Heap.IsTupleIter.at hit fun o x => hk it o (Ne.symm dit) x, tupKeep hl fun o x => hk l o (Ne.symm dl) x, ?_⟩
      rcases st with ⟨old, he⟩ | ⟨old, T, f, oT, he, hT, r1, r2, r3⟩
      · exact .inl ⟨old, hk e _ (Ne.symm de) he⟩
      · exact .inr ⟨old, T, f, oT, hk e _ (Ne.symm de) he, hk T oT r3 hT, r1, r2, r3⟩
    · rintro i s1 Q1 E1 hi ⟨hit, hl, st⟩ hds hQ
      have ex : items[i]? = some items[i] := Array.getElem?_eq_getElem hi
      have mem : ∀ {b : Addr}, b ∉ [e, it] → b ≠ e ∧ b ≠ it := fun hb => ⟨fun z => hb (by simp [z]), fun z => hb (by simp [z])⟩
      have il : it < s1.heap.objs.size := by
        obtain ⟨_, q, _⟩ := hit
        exact Heap.lt_size q
      have ec : ((i + 1 : Nat) : Int) = (i : Int) + 1 := by omega
      rcases st with ⟨old, he⟩ | ⟨old, T, f, oT, he, hT, r1, r2, r3⟩
      · refine wpAny_pyNext_enum_itemD (drawsT (A := A.in1) hA it l hli items) he ⟨hit, hl⟩ hi hei (by simp [hei, Ne.symm hle]) fun x h' tk px ho hst hT hsz hk => ?_
        have px : items[i]? = some x := px
        refine hQ s1.heap.objs.size (.int (i : Int) tk) x h' (tk + 1) ⟨⟨_, rfl⟩, px⟩ (.inl ⟨_, hT, rfl, 0, rfl⟩) ⟨hst.1, hst.2, .inr ⟨x, s1.heap.objs.size, false, _, by rw [ec]; exact ho, hT, Nat.ne_of_gt (Heap.lt_size he), Nat.ne_of_gt il, Nat.ne_of_gt hds⟩⟩ fun b o hb x => hk b o (mem hb).1 (mem hb).2 x
      · refine pyNext_heldT he hT r1 r2 hit hl ex hei fun h' ho hit' hT' hsz hk => ?_
        exact hQ s1.heap.objs.size (.int (i : Int) s1.toks) items[i] h' (s1.toks + 1) ⟨⟨_, rfl⟩, ex⟩ (.inl ⟨_, hT', rfl, 0, rfl⟩) ⟨hit', tupKeep hl fun o x => hk l o hle hli x, .inr ⟨old, T, true, oT, by rw [ec]; exact ho, hk T oT r1 r2 hT, r1, r2, r3⟩⟩ fun b o hb x => hk b o (mem hb).1 (mem hb).2 x
    · rintro s1 Q1 E1 ⟨hit, hl, st⟩ hQ
      have hx : items[items.size]? = none := Array.getElem?_eq_none (Nat.le_refl items.size)
      have mem : ∀ {b : Addr}, b ∉ [e, it] → b ≠ it := fun hb z => hb (by simp [z])
      rcases st with ⟨old, he⟩ | ⟨old, T, f, oT, he, hT, r1, r2, r3⟩
      · exact wpAny_pyNext_enum_endD (drawsT (A := A.in1) hA it l hli items) he ⟨hit, hl⟩ fun h' hk => hQ h' s1.toks fun b o hb x => hk b o (mem hb) x
      · exact pyNext_endT hA he hit hl hx fun h' hk => hQ h' s1.toks fun b o hb x => hk b o (mem hb) x
end RO

namespace RO
open PySem PySem.Spec PyProof.Rows L2

/-! ### dict(enumerate(t)) -/
def numbered : Nat → List V → List (Key × V)
  | _, [] => []
  | i, x :: r => (.inl (i : Int), x) :: numbered (i + 1) r
theorem numbered_len : ∀ (xs : List V) (i : Nat), (numbered i xs).length = xs.length
  | [], _ => rfl
  | _ :: r, i => by
    show (numbered (i + 1) r).length + 1 = _
    rw [numbered_len r]
    rfl
def numV : Nat → List Value → List (Key × Value)
  | _, [] => []
  | i, x :: r => (.inl (i : Int), x) :: numV (i + 1) r
theorem numV_len : ∀ (xs : List Value) (i : Nat), (numV i xs).length = xs.length
  | [], _ => rfl
  | _ :: r, i => by
    show (numV (i + 1) r).length + 1 = _
    rw [numV_len r]
    rfl
theorem numV_get : ∀ (xs : List Value) (i j : Nat) (v : Value), xs[j]? = some v → (numV i xs)[j]? = some (.inl ((i + j : Nat) : Int), v)
  | [], _, _, _, h => by simp at h
  | x :: r, i, 0, v, h => by
    obtain rfl := Option.some.inj h
    rfl
  | x :: r, i, j + 1, v, h => by
    have z := numV_get r (i + 1) j v h
    rw [show i + 1 + j = i + (j + 1) by omega] at z
    exact z
theorem num_kv : ∀ {xs : List V} {us : List Value} (i : Nat), Vals xs us → KV (numbered i xs) (numV i us)
  | _, _, _, .nil => .nil
  | _, _, i, .cons h r => .cons ⟨rfl, h⟩ (num_kv (i + 1) r)
def tDictE (K : PySem.W.Frag) (te : TE) : TE := fun σ H Q => te σ H fun v H1 => ∃ a xs, v = .ref a ∧ SqT K H1 a xs ∧ ∀ p, H1 p = none → Q (.ref p) (upd H1 p (.dK (mergeK [] (numbered 0 xs))))
theorem pe_dictE (K : PySem.W.Frag) {X : Cx} {e : Expr} {te : TE} {p1 p2 pos1 pos2 : Pos} (hc : X.calm = true) (hgd : Gl X "dict") (hmd : X.mg "dict" = none) (hge : Gl X "enumerate") (hme : X.mg "enumerate" = none) (he : PE X e te) (hK : X.K = K := by rfl)
    (hs : starEach [e] X.env = [(false, eval e X.env)] := by rfl) :
    PE X (.Call (.Name "dict" p1) [.Call (.Name "enumerate" p2) [e] [] pos2] [] pos1) (tDictE K te) := by
  subst hK
  refine ⟨fun pins s σ H Q I h => ?_⟩
  refine Call_ ?_
  apply ld_blt I hgd hmd boot_dict
  apply PyProof.Rows.callWith_type1 _ rfl rfl
  refine Calls.spliced_cons ?_
  show wpAny _ _ (eval (.Call (.Name "enumerate" p2) [e] [] pos2) X.env) _ _ _
  refine Call_ ?_
  apply ld_blt I hge hme boot_enumerate
  apply PyProof.Rows.callWith_type1 _ hs rfl
  rw [hs]
  refine Calls.spliced_cons ?_
  show wpAny _ _ (eval e X.env) _ _ _
  refine thn (he.run pins s σ H _ I h) fun u s1 ⟨x0, H1, I1, r1, a, xs, ex, hq, q⟩ => ?_
  subst ex
  obtain rfl : u = Value.ref a := r1
  refine Calls.spliced_nil ?_
  obtain ⟨its, rv, p', hz⟩ := I1.tuple hq
  obtain ⟨o, ho, _⟩ := id p'
  have hal : a < s1.heap.objs.size := Heap.lt_size ho
  refine call_enumT p' fun h' hen hit hsz hk => ?_
  refine Calls.spliced_nil ?_
  have hT' : h'.IsTuple a its.toArray := by
    obtain ⟨o, ho, r⟩ := p'
    exact ⟨o, hk _ _ ho, r⟩
  have I2 : Inv X pins σ H1 { s1 with heap := h' } := I1.kept (t' := s1.toks) hk
  refine call_dict_pairs (knd := mixKind X.prog X.w) (kvs := numV 0 its) (arg_enumT (s1.heap.objs.size + 1) s1.heap.objs.size a (Nat.succ_ne_self _) (Nat.ne_of_lt (Nat.lt_succ_of_lt hal)) (Nat.ne_of_lt hal) its.toArray) (I.ok.hd hc) ⟨⟨_, hen⟩, hit, hT'⟩ ⟨by rw [numV_len, List.size_toArray], fun i key v hr => ?_⟩ (by rw [List.size_toArray, ← rv.length]; exact hz) fun h2 tk hd hk2 => ?_
  · obtain ⟨⟨t, rfl⟩, hv⟩ := hr
    have hv : its[i]? = some v := by simpa using hv
    refine ⟨.inl ((0 + i : Nat) : Int), numV_get its 0 i v hv, ?_⟩
    rw [Nat.zero_add]
    exact decide_eq_true rfl
  · have kv := KV.merge (num_kv 0 rv) (kvs := []) (vs := []) .nil
    have len : (mergeK [] (numbered 0 xs)).length ≤ sizeLine := by
      have := length_mergeK (numbered 0 xs) []
      rw [numbered_len] at this
      have z : (mergeK [] (numbered 0 xs)).length ≤ 0 + xs.length := this
      omega
    have big : sysModules < h'.objs.size := I2.big
    have newE : ∀ b o, s1.heap.get? b = some o → h2.get? b = some o := fun b o hb => hk2 b o (fun hm => by
      have lt := Heap.lt_size hb
      simp only [List.mem_cons, List.not_mem_nil, or_false] at hm
      rcases hm with z | z
      · exact Nat.ne_of_lt (Nat.lt_succ_of_lt lt) z
      · exact Nat.ne_of_lt lt z) (hk b o hb)
    exact ⟨.ref h'.objs.size, _, I1.laid (t' := tk) (o := .dK (mergeK [] (numbered 0 xs))) newE (by rw [hsz]; omega) ⟨len, by
      have : h'.objs.size ≠ sysModules := Nat.ne_of_gt big
      simpa using this, _, kv, hd⟩, rfl, q _ (I1.hok.fresh (by rw [hsz]; omega))⟩
end RO

namespace RO
open PySem PySem.Spec PyProof.Rows L2

/-! ### data of any make: lists, tuples and dicts in one -/
mutual
inductive Tg (K : PySem.W.Frag) (H : Hp) : V → PyData → Prop
  | non : Tg K H .non .none
  | bl (b : Bool) : Tg K H (.bl b) (.bool b)
  | int (i : Int) : Tg K H (.int i) (.int i)
  | str (t : Str) : Tg K H (.str t) (.str t)
  | tup {a : Addr} {xs : List V} {ds : List PyData} : SqT K H a xs → TgAll K H xs ds → Tg K H (.ref a) (.tuple ds)
  | lst {a : Addr} {xs : List V} {ds : List PyData} : SqL K H a xs → a ≠ sysModules → TgAll K H xs ds → Tg K H (.ref a) (.list ds)
  | dct {a : Addr} {kvs : List (Key × V)} {es : List (PyData × PyData)} : H a = some (.dK kvs) → TgKv K H kvs es → Tg K H (.ref a) (.dict es)
inductive TgAll (K : PySem.W.Frag) (H : Hp) : List V → List PyData → Prop
  | nil : TgAll K H [] []
  | cons {v : V} {vs : List V} {d : PyData} {ds : List PyData} : Tg K H v d → TgAll K H vs ds → TgAll K H (v :: vs) (d :: ds)
inductive TgKv (K : PySem.W.Frag) (H : Hp) : List (Key × V) → List (PyData × PyData) → Prop
  | nil : TgKv K H [] []
  | cons {k : Key} {v : V} {kvs : List (Key × V)} {e : PyData} {es : List (PyData × PyData)} : Tg K H v e → TgKv K H kvs es → TgKv K H ((k, v) :: kvs) ((keyD k, e) :: es)
end
section
variable {X : Cx} {pins : List (Addr × Obj)} {σ : L2.St} {H : Hp} {s : Shared}
mutual
theorem Tg.reads (I : Inv X pins σ H s) : ∀ (d : PyData) (v : V) (u : Value), Tg X.K H v d → RelV v u → ∃ as, Reads s.heap u d as ∧ sysModules ∉ as
  | .none, _, _, h, r => by
    cases h
    cases r
    exact ⟨_, Reads.none, by simp⟩
  | .bool b, _, _, h, r => by
    cases h
    cases r
    exact ⟨_, Reads.bool b, by simp⟩
  | .int i, _, _, h, r => by
    cases h
    obtain ⟨t, rfl⟩ := r
    exact ⟨_, Reads.int i t, by simp⟩
  | .str x, _, _, h, r => by
    cases h
    obtain ⟨t, rfl⟩ := r
    exact ⟨_, Reads.str x t, by simp⟩
  | .list ds, _, _, h, r => by
    cases h with
    | lst hs hn0 ha =>
      cases r
      obtain ⟨its, rv, p, _⟩ := I.list hs
      obtain ⟨o, ho, hc, n, hd⟩ := p.isList
      obtain ⟨as, hr, hn⟩ := Tg.readsAll I ds _ its ha rv
      exact ⟨_, Reads.list ho hc hd hr, by simpa using ⟨Ne.symm hn0, hn⟩⟩
  | .tuple ds, _, _, h, r => by
    cases h with
    | tup hs ha =>
      cases r
      obtain ⟨its, rv, ⟨o, ho, hc, n, hd⟩, _⟩ := I.tuple hs
      obtain ⟨as, hr, hn⟩ := Tg.readsAll I ds _ its ha rv
      exact ⟨_, Reads.tuple ho hc hd hr, hn⟩
  | .dict kes, _, _, h, r => by
    cases h with
    | dct ha hkv =>
      cases r
      obtain ⟨_, hs, vs, rel, o, es, ep, ho, hx, hdat, hk, hp, _⟩ := dk_of I.hok ha
      obtain ⟨as, r1, r2, n2⟩ := Tg.readsKv I kes _ vs es.toList hkv rel hp
      exact ⟨_, Reads.dict ho hx.1 hdat r1 r2, by simpa using ⟨sys_ne2 hs, n2⟩⟩
theorem Tg.readsAll (I : Inv X pins σ H s) : ∀ (ds : List PyData) (vs : List V) (us : List Value), TgAll X.K H vs ds → Vals vs us → ∃ as, ReadsAll s.heap us ds as ∧ sysModules ∉ as
  | [], _, _, h, r => by
    cases h
    cases r
    exact ⟨_, ReadsAll.nil, by simp⟩
  | d :: ds, _, _, h, r => by
    cases h with
    | cons h1 h2 =>
      cases r with
      | cons r1 r2 =>
        obtain ⟨as, q1, n1⟩ := Tg.reads I d _ _ h1 r1
        obtain ⟨bs, q2, n2⟩ := Tg.readsAll I ds _ _ h2 r2
        exact ⟨_, ReadsAll.cons q1 q2, by simpa using ⟨n1, n2⟩⟩
theorem Tg.readsKv (I : Inv X pins σ H s) : ∀ (es : List (PyData × PyData)) (kvs : List (Key × V)) (vs : List (Key × Value)) (el : List DictEntry), TgKv X.K H kvs es → KV kvs vs → PySem.Pairs (mixKind X.prog X.w) el vs →
    ∃ as, ReadsAll s.heap (el.map (·.key)) (es.map (·.1)) [] ∧ ReadsAll s.heap (el.map (·.val)) (es.map (·.2)) as ∧ sysModules ∉ as
  | [], _, _, _, h, r, p => by
    cases h
    cases r
    cases p
    exact ⟨_, .nil, .nil, by simp⟩
  | (kd, e) :: es, _, _, _, h, r, p => by
    cases h with
    | cons h1 h2 =>
      cases r with
      | @cons _ qv _ _ r1 r2 =>
        obtain ⟨er, rx⟩ := r1
        cases p with
        | @cons en _ _ _ p1 p2 p3 =>
          obtain ⟨as, q1, n1⟩ := Tg.reads I e _ _ h1 rx
          obtain ⟨bs, k2, q2, n2⟩ := Tg.readsKv I es _ _ _ h2 r2 p3
          have er : _ = qv.1 := er
          dsimp only at er
          have rv : Reads s.heap en.val e as := by
            rw [p2]
            exact q1
          refine ⟨_, .cons (as := []) (bs := []) ?_ k2, .cons rv q2, by simpa using ⟨n1, n2⟩⟩
          show Reads s.heap en.key (keyD _) []
          rw [er]
          exact keyD_reads p1
end
end
theorem repD_kv {es : List (PyData × PyData)} {k m n : Nat} : (∀ p ∈ es, RepD p.1 k m ∧ RepD p.2 k n) → PyData.showableKv es = true ∧ PyData.depthKv es ≤ k ∧ PyData.leavesShortKv 400 es = true ∧ PyData.bulkKv es ≤ es.length * (m + n + 2) := by
  induction es with
  | nil => intro _; exact ⟨rfl, Nat.zero_le _, rfl, Nat.zero_le _⟩
  | cons p r ih =>
    intro h
    obtain ⟨h1, h3, h4, h5⟩ := ih fun x hx => h x (List.mem_cons_of_mem _ hx)
    obtain ⟨q1, q2⟩ := h p (List.mem_cons_self ..)
    obtain ⟨a, b⟩ := p
    dsimp only at q1 q2
    refine ⟨?_, ?_, ?_, ?_⟩
    · simp [PyData.showableKv, q1.sh, q2.sh, h1]
    · have := q1.dp
      have := q2.dp
      simp [PyData.depthKv]
      omega
    · simp [PyData.leavesShortKv, q1.lv, q2.lv, h4]
    · have := q1.bk
      have := q2.bk
      have e : (r.length + 1) * (m + n + 2) = r.length * (m + n + 2) + (m + n + 2) := Nat.succ_mul _ _
      simp only [PyData.bulkKv, List.length_cons]
      omega
theorem RepD.dct {es : List (PyData × PyData)} {k m n : Nat} (h : ∀ p ∈ es, RepD p.1 k m ∧ RepD p.2 k n) : RepD (.dict es) (k + 1) (es.length * (m + n + 2)) := by
  obtain ⟨h1, h3, h4, h5⟩ := repD_kv h
  exact ⟨by simpa only [PyData.showable] using h1, by simp only [PyData.depth]; omega, by simpa only [PyData.leavesShort] using h4, by simpa only [PyData.bulk] using h5⟩
theorem RepD.list {ds : List PyData} {k n : Nat} (h : ∀ d ∈ ds, RepD d k n) : RepD (.list ds) (k + 1) (ds.length * (n + 1)) := by
  obtain ⟨h1, h3, h4, h5⟩ := repD_all h
  exact ⟨by simpa only [PyData.showable] using h1, by simp only [PyData.depth]; omega, by simpa only [PyData.leavesShort] using h4, by simpa only [PyData.bulk] using h5⟩
/-- heaps that keep a thing's cells keep its data -/
structure Kps (K : PySem.W.Frag) (H H1 : Hp) : Prop where
  t : ∀ a xs, SqT K H a xs → SqT K H1 a xs
  l : ∀ a xs, SqL K H a xs → SqL K H1 a xs
  d : ∀ a kvs, H a = some (.dK kvs) → H1 a = some (.dK kvs)
theorem Kps.of_same {K : PySem.W.Frag} {H H1 : Hp} (s : Same H H1) : Kps K H H1 := ⟨fun _ _ q => same_seqT s q, fun _ _ q => same_seqL s q, fun _ _ q => s _ _ q⟩
mutual
theorem tg_keep {K : PySem.W.Frag} {H H1 : Hp} (s : Kps K H H1) : ∀ (d : PyData) (v : V), Tg K H v d → Tg K H1 v d
  | .none, _, h => by cases h; exact .non
  | .bool b, _, h => by cases h; exact .bl b
  | .int i, _, h => by cases h; exact .int i
  | .str x, _, h => by cases h; exact .str x
  | .list ds, _, h => by
    cases h with
    | lst hs n ha => exact .lst (s.l _ _ hs) n (tgAll_keep s ds _ ha)
  | .tuple ds, _, h => by
    cases h with
    | tup hs ha => exact .tup (s.t _ _ hs) (tgAll_keep s ds _ ha)
  | .dict es, _, h => by
    cases h with
    | dct ha hk => exact .dct (s.d _ _ ha) (tgKv_keep s es _ hk)
theorem tgAll_keep {K : PySem.W.Frag} {H H1 : Hp} (s : Kps K H H1) : ∀ (ds : List PyData) (vs : List V), TgAll K H vs ds → TgAll K H1 vs ds
  | [], _, h => by cases h; exact .nil
  | d :: ds, _, h => by
    cases h with
    | cons h1 h2 => exact .cons (tg_keep s d _ h1) (tgAll_keep s ds _ h2)
theorem tgKv_keep {K : PySem.W.Frag} {H H1 : Hp} (s : Kps K H H1) : ∀ (es : List (PyData × PyData)) (kvs : List (Key × V)), TgKv K H kvs es → TgKv K H1 kvs es
  | [], _, h => by cases h; exact .nil
  | (_, e) :: es, _, h => by
    cases h with
    | cons h1 h2 => exact .cons (tg_keep s e _ h1) (tgKv_keep s es _ h2)
end
/-- data, of any make -/
inductive Tz (K : PySem.W.Frag) (H : Hp) : V → PyData → Prop
  | dp {v : V} {d : PyData} {k n : Nat} : Dp K H v d → RepOk d k n → k ≤ 40 → n ≤ 40000 → Tz K H v d
  | tg {a : Addr} {d : PyData} {k n : Nat} : Tg K H (.ref a) d → RepD d k n → k ≤ 40 → n ≤ 40000 → Tz K H (.ref a) d
def rRepr6 (K : PySem.W.Frag) : List V → Hp → VK → Prop := fun xs H Q => ∃ v d, xs = [v] ∧ Tz K H v d ∧ Q (.str d.shown) H
theorem call_repr6 {X : Cx} (hG : X.A.guards = some []) (hu : X.A.units + 64 < cLine) : CallR X (.builtin "repr") (rRepr6 X.K) := by
  intro pins s σ H xs us Q I r h
  obtain ⟨v, d, e, hd, q⟩ := h
  cases hd with
  | dp h1 h2 h3 h4 => exact call_reprD hG hu pins s σ H xs us Q I r ⟨v, d, _, _, e, h1, h2, h3, h4, q⟩
  | @tg a _ k n h1 h2 h3 h4 =>
    subst e
    rw [Vals.ref1 r]
    obtain ⟨as, rd, nos⟩ := Tg.reads I d (.ref a) (.ref a) h1 rfl
    have fin : ∀ (h' : Heap) (u : Tok) (tk : Nat), (∀ b o, s.heap.get? b = some o → h'.get? b = some o) → EP X pins σ Q (.str d.shown u) { s with heap := h', toks := tk } :=
      fun h' u tk hk => ⟨.str d.shown, H, I.un (Un.kept hk) (I.hok.kept hk), ⟨u, rfl⟩, q⟩
    have dp := h2.dp
    exact repr_of_reads' rd h2.sh (fun _ => nos) hG (by omega) (fun _ _ z => z) fin (h2.fits h4)
theorem k_repr6 (K : PySem.W.Frag) {X : Cx} (hG : X.A.guards = some []) (hu : X.A.units + 64 < cLine) (h : X.K = K := by rfl) : CallR X (.builtin "repr") (rRepr6 K) := by
  subst h
  exact call_repr6 hG hu
/-! ### a new list, and where it does not lie -/
def tLstB (t : TA) : TE := fun σ H Q => t σ H fun vs H1 => vs.length ≤ sizeLine ∧ ∀ p, H1 p = none → p ≠ sysModules → Q (.ref p) (upd H1 p (.lst vs))
theorem pe_lstB {X : Cx} {es : List Expr} {t : TA} {pos : Pos} (h : PA X es t) : PE X (.List es pos) (tLstB t) := by
  refine ⟨fun pins s σ H Q I hq => ?_⟩
  refine wpAny_List_spliced (thn (h.run pos pins s σ H (fun xs H1 => xs.length ≤ sizeLine ∧ ∀ p, H1 p = none → p ≠ sysModules → Q (.ref p) (upd H1 p (.lst xs))) I hq) fun us s1 ⟨xs, H1, I1, r, z, q⟩ => ?_)
  refine ⟨by rw [← r.length]; exact z, ?_⟩
  have hf := I1.hok.fresh (Nat.le_refl s1.heap.objs.size)
  exact ⟨.ref s1.heap.objs.size, upd H1 s1.heap.objs.size (.lst xs), I1.laid (t' := s1.toks) (fun b u e => Heap.get?_push_of_some { cls := .type "list", data := .seq us.toArray } e) (Nat.le_refl _)
    ⟨z, us, 0, r, Heap.get?_push_size s1.heap rfl⟩, rfl, q _ hf (Nat.ne_of_gt I1.big)⟩
end RO

namespace RO
open PySem PySem.Spec PyProof.Rows L2

/-! ### a list, whatever it holds, beside the empty one -/
def rEqE (K : PySem.W.Frag) : R2 := fun x y H Q => ∃ a b xs, x = .ref a ∧ y = .ref b ∧ SqL K H a xs ∧ SqL K H b [] ∧ Q (.bl xs.isEmpty) H
theorem k_eqE (K : PySem.W.Frag) {X : Cx} (hu : X.A.units + 64 < cLine) (h : X.K = K := by rfl) : OpR X (compareOp .Eq) (rEqE K) := by
  subst h
  intro pins s σ H x y v u Q I rx ry h
  obtain ⟨a, b, xs, rfl, rfl, h1, h2, q⟩ := h
  cases xs with
  | nil =>
    refine k_eqD (K := X.K) hu rfl pins s σ H _ _ v u Q I rx ry ⟨.list [], .list [], .lst h1 .nil, .lst h2 .nil, rfl, rfl, ?_⟩
    exact q
  | cons x xs =>
    cases rx
    cases ry
    obtain ⟨i1, r1, p1, _⟩ := I.list h1
    obtain ⟨i2, r2, p2, _⟩ := I.list h2
    cases r2
    have l1 := r1.length
    refine SeqAt.eq_list_lengthsAt p1.isList p2.isList ?_ (by omega) ⟨.bl false, H, I, rfl, q⟩
    rw [List.size_toArray, ← l1]
    rfl
end RO

namespace RO
open PySem PySem.Spec PyProof.Rows L2
def top (i : Nat) : Stmt := PySem.Challenge.pw_ringorders_k51_tables_known.main.body.getD i (.Pass ⟨0, 0, 0, 0⟩)
abbrev s_is_whole : Stmt := top 3
theorem sc_is_whole : FnScope ["thing"] ["thing"] (defScope s_is_whole) := ⟨rfl, rfl, rfl, by decide +kernel, rfl, by decide +kernel, by decide +kernel⟩
abbrev s_is_table : Stmt := top 6
theorem sc_is_table : FnScope ["thing", "turned"] ["thing"] (defScope s_is_table) := ⟨rfl, rfl, rfl, by decide +kernel, rfl, by decide +kernel, by decide +kernel⟩
abbrev s_pen : Stmt := top 8
theorem sc_pen : FnScope ["_law_script"] ["_law_script"] (defScope s_pen) := ⟨rfl, rfl, rfl, by decide +kernel, rfl, by decide +kernel, by decide +kernel⟩
abbrev s_take : Stmt := top 9
theorem sc_take : FnScope ["_law_pen_here", "_law_many", "_law_digit", "_law_turn", "_law_cell", "_law_whole_here", "_law_mixed"] ["_law_pen_here", "_law_many"] (defScope s_take) := ⟨rfl, rfl, rfl, by decide +kernel, rfl, by decide +kernel, by decide +kernel⟩
abbrev s_table : Stmt := top 10
theorem sc_table : FnScope ["_law_pen_here", "_law_way", "_law_much", "_law_k"] ["_law_pen_here"] (defScope s_table) := ⟨rfl, rfl, rfl, by decide +kernel, rfl, by decide +kernel, by decide +kernel⟩
abbrev s_whole : Stmt := top 11
theorem sc_whole : FnScope ["_law_what_is"] ["_law_what_is"] (defScope s_whole) := ⟨rfl, rfl, rfl, by decide +kernel, rfl, by decide +kernel, by decide +kernel⟩
abbrev s_law_is_table : Stmt := top 12
theorem sc_law_is_table : FnScope ["_law_what_is", "_law_one"] ["_law_what_is"] (defScope s_law_is_table) := ⟨rfl, rfl, rfl, by decide +kernel, rfl, by decide +kernel, by decide +kernel⟩
abbrev s_odd : Stmt := top 13
theorem sc_odd : FnScope ["_law_pen_here", "_law_part", "_law_some"] ["_law_pen_here", "_law_part"] (defScope s_odd) := ⟨rfl, rfl, rfl, by decide +kernel, rfl, by decide +kernel, by decide +kernel⟩
abbrev s_bent : Stmt := top 14
theorem sc_bent : FnScope ["_law_pen_here", "_law_table_here", "_law_way", "_law_at", "_law_found", "_law_some"] ["_law_pen_here", "_law_table_here"] (defScope s_bent) := ⟨rfl, rfl, rfl, by decide +kernel, rfl, by decide +kernel, by decide +kernel⟩
abbrev s_law : Stmt := top 15
theorem sc_law : FnScope ["_law_script", "_law_pen_here", "_law_things", "_law_turn", "_law_table_here", "_law_what_is", "_law_kept", "_law_found", "_law_k"] ["_law_script"] (defScope s_law) := ⟨rfl, rfl, rfl, by decide +kernel, rfl, by decide +kernel, by decide +kernel⟩
structure Txt (w : World) (K : PySem.W.Frag) (mg : Str → Option Value) where
  a_is_whole : Addr
  d_is_whole : FuncData
  F_is_whole : Fun K "is_whole" "is_whole" s_is_whole a_is_whole d_is_whole
  b_is_whole : Binds K d_is_whole ["thing"] []
  g_is_whole : mg "is_whole" = some (.ref a_is_whole)
  a_is_table : Addr
  d_is_table : FuncData
  F_is_table : Fun K "is_table" "is_table" s_is_table a_is_table d_is_table
  b_is_table : Binds K d_is_table ["thing"] []
  g_is_table : mg "is_table" = some (.ref a_is_table)
  a_pen : Addr
  d_pen : FuncData
  F_pen : Fun K "_law_pen" "_law_pen" s_pen a_pen d_pen
  b_pen : Binds K d_pen ["_law_script"] []
  g_pen : mg "_law_pen" = some (.ref a_pen)
  a_take : Addr
  d_take : FuncData
  F_take : Fun K "_law_take" "_law_take" s_take a_take d_take
  b_take : Binds K d_take ["_law_pen_here", "_law_many"] []
  g_take : mg "_law_take" = some (.ref a_take)
  a_table : Addr
  d_table : FuncData
  F_table : Fun K "_law_table" "_law_table" s_table a_table d_table
  b_table : Binds K d_table ["_law_pen_here"] []
  g_table : mg "_law_table" = some (.ref a_table)
  a_whole : Addr
  d_whole : FuncData
  F_whole : Fun K "_law_whole" "_law_whole" s_whole a_whole d_whole
  b_whole : Binds K d_whole ["_law_what_is"] []
  g_whole : mg "_law_whole" = some (.ref a_whole)
  a_law_is_table : Addr
  d_law_is_table : FuncData
  F_law_is_table : Fun K "_law_is_table" "_law_is_table" s_law_is_table a_law_is_table d_law_is_table
  b_law_is_table : Binds K d_law_is_table ["_law_what_is"] []
  g_law_is_table : mg "_law_is_table" = some (.ref a_law_is_table)
  a_odd : Addr
  d_odd : FuncData
  F_odd : Fun K "_law_odd" "_law_odd" s_odd a_odd d_odd
  b_odd : Binds K d_odd ["_law_pen_here", "_law_part"] []
  g_odd : mg "_law_odd" = some (.ref a_odd)
  a_bent : Addr
  d_bent : FuncData
  F_bent : Fun K "_law_bent" "_law_bent" s_bent a_bent d_bent
  b_bent : Binds K d_bent ["_law_pen_here", "_law_table_here"] []
  g_bent : mg "_law_bent" = some (.ref a_bent)
  a_law : Addr
  d_law : FuncData
  F_law : Fun K "law" "law" s_law a_law d_law
  b_law : Binds K d_law ["_law_script"] []
  g_law : mg "law" = some (.ref a_law)
  kb0_is_table : KBinds K d_is_table ["thing"] ["thing"] (fun us ws => match us, ws with | [], [x0] => [x0] | _, _ => []) (fun us ws => match us, ws with | [], [x0] => [x0] | _, _ => [])
  z_abs : mg "abs" = none
  z_all : mg "all" = none
  z_bool : mg "bool" = none
  z_dict : mg "dict" = none
  z_enumerate : mg "enumerate" = none
  z_int : mg "int" = none
  z_isinstance : mg "isinstance" = none
  z_len : mg "len" = none
  z_list : mg "list" = none
  z_range : mg "range" = none
  z_repr : mg "repr" = none
  z_str : mg "str" = none
  z_tuple : mg "tuple" = none
  t_FULL_AHEAD : Tok
  c_FULL_AHEAD : mg "FULL_AHEAD" = some (.int (4) t_FULL_AHEAD)
  t_FULL_ASTERN : Tok
  c_FULL_ASTERN : mg "FULL_ASTERN" = some (.int (-4) t_FULL_ASTERN)
  t_MOST_TURNS : Tok
  c_MOST_TURNS : mg "MOST_TURNS" = some (.int (999) t_MOST_TURNS)
/-! a step of a reading whose answer is fixed: a name, a number's operation -/
local macro_rules | `(tactic| walk_at "rd") => `(tactic| (first
  | refine ⟨_, rfl, ?_⟩
  | refine ⟨_, _, rfl, rfl, ?_⟩
  | (refine And.intro ?rdc ?_; (case rdc => first | decide | omega | exact ⟨by omega, by omega⟩ | exact ⟨by decide, by decide, by omega⟩ | exact ⟨by decide, by decide, by decide⟩ | exact .inl ⟨by omega, by omega⟩ | exact .inr ⟨by omega, by omega⟩))))
section
variable {P : Program} {w : World} {K : PySem.W.Frag} {mg : Str → Option Value} {base : Heap}
/-! ### the pen -/
def spTake (K : PySem.W.Frag) : Sp := fun vs H Q _ => ∃ (p c : Addr) (n : Nat) (m : Int), vs = [.ref p, .int m] ∧ PenAt H p c n ∧ Cells K H p c ∧ n ≤ 100000 ∧ 1 ≤ m ∧ m < 1073741824 ∧
  ∀ H' r, Go K p c H (n + 1) H' → 0 ≤ r → r < m → Q (.int r) H'
theorem ok_take (T : Txt w K mg) : FnOk P w K mg base CX0 1 T.a_take T.d_take ["_law_pen_here", "_law_many"] (spTake K) := by
  refine T.F_take.ok sc_take (fun vs H Q E h => ?_) (fun cdv A outer s H vs Q E hr h => ?_)
  · obtain ⟨p, c, n, m, rfl, _⟩ := h
    rfl
  · obtain ⟨p, c, n, m, rfl, hp, hc, hn, hm1, hm2, q⟩ := h
    obtain ⟨at_, cy, e, h0, h1, h2⟩ := id hp
    obtain ⟨ne, ns, hS, hl⟩ := id hc
    refine ⟨_, (pss_cons (ps_if (pt_cmpR op_gt (pe_ix (kx_list K) (pv 0) pe_int (fun _ _ => rfl)) pe_int (nomark _)) (pss_cons (ps_set (i := 2) sc_take.nd rfl (by first | exact Or.inl rfl | exact Or.inr rfl) (pe_op op_modN (pe_ix (kx_list K) (pv 0) pe_int (fun _ _ => rfl)) (pv 1)))
  (pss_cons (ps_asg (pe_op op_fdivN (pe_ix (kx_list K) (pv 0) pe_int (fun _ _ => rfl)) (pv 1)) (pg_sub (pv 0) pe_int set_list))
  (pss_one (ps_ret (pv 2))))) pss_nil)
  (pss_cons (ps_set (i := 3) sc_take.nd rfl (by first | exact Or.inl rfl | exact Or.inr rfl) (pe_ix (kx_list K) (pv 0) pe_int (fun _ _ => rfl)))
  (pss_cons (ps_asg (pe_op op_add (pv 3) pe_int) (pg_sub (pv 0) pe_int set_list))
  (pss_cons (ps_set (i := 4) sc_take.nd rfl (by first | exact Or.inl rfl | exact Or.inr rfl) pe_int)
  (C8.pss_cut (ps_if (pt_cmpR op_gt (pe_callB (k_len K) (by rfl) T.z_len (by decide +kernel) (pa_cons (pe_ix (kx_list K) (pv 0) pe_int (fun _ _ => rfl)) pa_nil)) pe_int (nomark _)) (pss_one (ps_set (i := 4) sc_take.nd rfl (by first | exact Or.inl rfl | exact Or.inr rfl) (pe_ix (kx_list K) (pe_ix (kx_list K) (pv 0) pe_int (fun _ _ => rfl)) (pe_op op_modN (pv 3) (pe_callB (k_len K) (by rfl) T.z_len (by decide +kernel) (pa_cons (pe_ix (kx_list K) (pv 0) pe_int (fun _ _ => rfl)) pa_nil))) (fun _ _ => rfl)))) pss_nil)
  (C8.pss_cut (ps_if (PW.pt (pw_and (pt_cmpR op_lt (pv 3) (pe_callB (k_len K) (by rfl) T.z_len (by decide +kernel) (pa_cons (pe_ix (kx_list K) (pv 0) pe_int (fun _ _ => rfl)) pa_nil)) (nomark _)) (pw_and1 (pt_cmpR op_ge (pe_callB call_abs (by rfl) T.z_abs (by decide +kernel) (pa_cons (pv 4) pa_nil)) (pe_op op_pow pe_int pe_int) (nomark _))))) (pss_cons (ps_set (i := 5) sc_take.nd rfl (by first | exact Or.inl rfl | exact Or.inr rfl) (pe_op op_add (pe_op op_mul pe_int (pe_callB call_abs (by rfl) T.z_abs (by decide +kernel) (pa_cons (pv 4) pa_nil))) (pe_callTy call_int1 (by rfl) T.z_int (by decide +kernel) (pa_cons (pe_cmpR op_lt (pv 4) pe_int (nomark _)) pa_nil))))
  (pss_cons (ps_asg (pe_op op_fdivN (pv 5) (pv 1)) (pg_sub (pv 0) pe_int set_list))
  (pss_one (ps_ret (pe_op op_modN (pv 5) (pv 1)))))) pss_nil)
  (pss_cons (ps_set (i := 6) sc_take.nd rfl (by first | exact Or.inl rfl | exact Or.inr rfl) (pe_op op_modN (pe_op op_pow (pe_op op_add (pe_op op_add (pe_op op_modN (pv 4) pe_int) (pe_op op_mul pe_int (pv 3))) pe_int) pe_int) pe_int))
  (pss_cons (ps_set (i := 6) sc_take.nd rfl (by first | exact Or.inl rfl | exact Or.inr rfl) (pe_op op_modN (pe_op op_pow (pe_op op_add (pe_op op_mul (pv 6) (pe_op op_add (pv 3) pe_int)) (pe_op op_modN (pv 4) pe_int)) pe_int) pe_int))
  (pss_one (ps_ret (pe_op op_modN (pe_op op_fdivN (pv 6) pe_int) (pv 1)))))))))))), ?_⟩
    refine ⟨_, rfl, p, _, 2, _, rfl, rfl, SqL.of e, rfl, _, _, rfl, rfl, _, rfl, ite2 (fun t => ?_) (fun t => ?_)⟩
    · -- a rest is left
      have t' : 0 < cy := of_decide_eq_true t
      refine ⟨_, rfl, p, _, 2, _, rfl, rfl, SqL.of e, rfl, _, rfl, _, _, rfl, rfl, (by omega), ?_⟩
      refine ⟨_, rfl, p, _, 2, _, rfl, rfl, SqL.of e, rfl, _, rfl, _, _, rfl, rfl, ⟨by omega, by omega⟩, ?_⟩
      refine ⟨_, rfl, p, _, 2, 2, rfl, rfl, e, rfl, ?_⟩
      refine ⟨_, rfl, q _ _ (Go.make hc But.put upd_same h0 (by omega) (fdiv_ge h2 (by omega))) (fmod_ge (by omega)) (fmod_lt (by omega))⟩
    · refine ⟨_, rfl, p, _, 1, _, rfl, rfl, SqL.of e, rfl, ?_⟩
      refine ⟨_, rfl, _, _, rfl, rfl, _, rfl, p, _, 1, 1, rfl, rfl, e, rfl, ?_⟩
      -- the place goes on
      have e1 : upd H p (.lst ([V.ref c, V.int at_, V.int cy].set 1 (V.int (at_ + 1)))) p = some (.lst [V.ref c, V.int (at_ + 1), V.int cy]) := upd_same
      have b1 : But p H (upd H p (.lst ([V.ref c, V.int at_, V.int cy].set 1 (V.int (at_ + 1))))) := But.put
      generalize upd H p (.lst ([V.ref c, V.int at_, V.int cy].set 1 (V.int (at_ + 1)))) = H1 at e1 b1 ⊢
      have hS1 := b1.seqL ne hS
      -- the cell
      refine ⟨fun σ' H' => ∃ cell : Int, σ' = [some (.ref p), some (.int m), none, some (.int at_), some (.int cell), none, none] ∧ But p H H' ∧ H' p = some (.lst [.ref c, .int (at_ + 1), .int cy]), ?_, ?_⟩
      · refine ⟨_, rfl, p, _, 0, _, rfl, rfl, SqL.of e1, rfl, c, _, rfl, .inl hS1, _, _, rfl, rfl, _, rfl, ite2 (fun t2 => ?_) (fun t2 => ⟨_, rfl, b1, e1⟩)⟩
        have l0 : 0 < (ns.map V.int).length := by
          have := of_decide_eq_true t2
          omega
        obtain ⟨v, hv, ev⟩ := atI_fmod (xs := ns.map V.int) (i := at_) l0
        obtain ⟨z, _, rfl⟩ := List.mem_map.mp hv
        exact ⟨_, rfl, p, _, 0, _, rfl, rfl, SqL.of e1, rfl, _, rfl, _, rfl, p, _, 0, _, rfl, rfl, SqL.of e1, rfl, c, _, rfl, .inl hS1, _, _, rfl, rfl, (by omega), c, _, _, _, rfl, rfl, hS1, ev, z, rfl, b1, e1⟩
      · clear e1 b1 hS1
        rintro σ' H2 ⟨cell, rfl, b1, e1⟩
        have hS1 := b1.seqL ne hS
        refine ⟨fun σ2 H3 => σ2 = [some (.ref p), some (.int m), none, some (.int at_), some (.int cell), none, none] ∧ H3 = H2, ?_, ?_⟩
        · refine ⟨_, rfl, _, rfl, p, _, 0, _, rfl, rfl, SqL.of e1, rfl, c, _, rfl, .inl hS1, _, _, rfl, rfl, _, rfl, ite2 (fun t3 => ?_) (fun t3 => iteF ⟨rfl, rfl⟩)⟩
          refine ⟨_, rfl, _, rfl, _, _, rfl, rfl, ⟨by decide, by decide, by decide⟩, _, _, rfl, rfl, _, rfl, ite2 (fun t4 => ?_) (fun t4 => ⟨rfl, rfl⟩)⟩
          have habs : (0 : Int) ≤ if cell < 0 then -cell else cell := by
            split <;> omega
          refine ⟨_, rfl, _, rfl, _, _, rfl, rfl, .inl ⟨by decide, by decide⟩, _, rfl, _, _, rfl, rfl, .inr ⟨_, rfl, ?_⟩⟩
          have hone : (0 : Int) ≤ if decide (cell < 0) = true then 1 else 0 := by
            split <;> omega
          refine ⟨_, _, rfl, rfl, _, rfl, _, rfl, _, _, rfl, rfl, ⟨by omega, by omega⟩, _, rfl, p, _, 2, 2, rfl, rfl, e1, rfl, ?_⟩
          exact ⟨_, rfl, _, rfl, _, _, rfl, rfl, (by omega), q _ _ (Go.make hc (b1.trans But.put) upd_same (by omega) (by omega) (fdiv_ge (by omega) (by omega))) (fmod_ge (by omega)) (fmod_lt (by omega))⟩
        · rintro σ2 H3 ⟨rfl, rfl⟩
          have a1 := fmod_ge (a := cell) (b := 2147483587) (by decide)
          have a2 := fmod_lt (a := cell) (b := 2147483587) (by decide)
          have c1 := fmod_ge (a := cell) (b := 1013) (by decide)
          have c2 := fmod_lt (a := cell) (b := 1013) (by decide)
          have z1 := fmod_ge (a := (cell.fmod 2147483587 + 8117 * at_ + 211) ^ Int.toNat 3) (b := 2147483647) (by decide)
          have z2 := fmod_lt (a := (cell.fmod 2147483587 + 8117 * at_ + 211) ^ Int.toNat 3) (b := 2147483647) (by decide)
          have y1 : 0 ≤ ((cell.fmod 2147483587 + 8117 * at_ + 211) ^ Int.toNat 3).fmod 2147483647 * (at_ + 50021) := Int.mul_nonneg z1 (by omega)
          have y2 : ((cell.fmod 2147483587 + 8117 * at_ + 211) ^ Int.toNat 3).fmod 2147483647 * (at_ + 50021) ≤ 2147483647 * 150021 := Int.mul_le_mul (by omega) (by omega) (by omega) (by decide)
          repeat (walk_at "rd")
          exact q _ _ (Go.make hc b1 e1 (by omega) (by omega) h2) (fmod_ge (by omega)) (fmod_lt (by omega))
/-! ### a thing of any sort -/
inductive Any (K : PySem.W.Frag) (H : Hp) : V → Prop
  | non : Any K H .non
  | bl (b : Bool) : Any K H (.bl b)
  | int (i : Int) : Any K H (.int i)
  | str {t : Str} : TOk 400 t → Any K H (.str t)
  | lst {a : Addr} : TyX K H (.ref a) (.type "list") → Any K H (.ref a)
  | tup {a : Addr} : TyX K H (.ref a) (.type "tuple") → Any K H (.ref a)
  | dict {a : Addr} : TyX K H (.ref a) (.type "dict") → Any K H (.ref a)
def wholeV : V → Bool
  | .int _ => true
  | _ => false
def betV (lo hi : Int) : V → Bool
  | .int i => decide (lo ≤ i) && decide (i ≤ hi)
  | _ => false
def lettersS (t : Str) : Bool := t.cps.toList.all letter
def nameV : V → Bool
  | .str t => decide ((1 : Int) ≤ (t.length : Int)) && decide ((t.length : Int) ≤ 8) && lettersS t
  | _ => false
def isIntV : V → Bool
  | .int _ => true
  | .bl _ => true
  | _ => false
def isBlV : V → Bool
  | .bl _ => true
  | _ => false
def isStrV : V → Bool
  | .str _ => true
  | _ => false
section
variable {K : PySem.W.Frag} {H : Hp} {v : V}
theorem Any.ty (h : Any K H v) : ∃ ty, TyX K H v ty ∧ PySem.W.kitOne K ty (.type "int") = some (isIntV v) ∧ PySem.W.kitOne K ty (.type "bool") = some (isBlV v) ∧ PySem.W.kitOne K ty (.type "str") = some (isStrV v) := by
  cases h with
  | non => exact ⟨_, .base .non, kit_ty (by decide +kernel), kit_ty (by decide +kernel), kit_ty (by decide +kernel)⟩
  | bl b => exact ⟨_, .base (.bl b), kit_ty (by show kitB "bool" "int" = some true; decide +kernel), kit_ty (by show kitB "bool" "bool" = some true; decide +kernel), kit_ty (by show kitB "bool" "str" = some false; decide +kernel)⟩
  | int i => exact ⟨_, .base (.int i), kit_ty (by show kitB "int" "int" = some true; decide +kernel), kit_ty (by show kitB "int" "bool" = some false; decide +kernel), kit_ty (by show kitB "int" "str" = some false; decide +kernel)⟩
  | @str t _ => exact ⟨_, .base (.str t), kit_ty (by show kitB "str" "int" = some false; decide +kernel), kit_ty (by show kitB "str" "bool" = some false; decide +kernel), kit_ty (by show kitB "str" "str" = some true; decide +kernel)⟩
  | lst q => exact ⟨_, q, kit_ty (by show kitB "list" "int" = some false; decide +kernel), kit_ty (by show kitB "list" "bool" = some false; decide +kernel), kit_ty (by show kitB "list" "str" = some false; decide +kernel)⟩
  | tup q => exact ⟨_, q, kit_ty (by show kitB "tuple" "int" = some false; decide +kernel), kit_ty (by show kitB "tuple" "bool" = some false; decide +kernel), kit_ty (by show kitB "tuple" "str" = some false; decide +kernel)⟩
  | dict q => exact ⟨_, q, kit_ty (by show kitB "dict" "int" = some false; decide +kernel), kit_ty (by show kitB "dict" "bool" = some false; decide +kernel), kit_ty (by show kitB "dict" "str" = some false; decide +kernel)⟩
theorem code_lt (a b : Nat) : decide (([a] : List Nat) < [b]) = decide (a < b) := by
  rw [Bool.eq_iff_iff, decide_eq_true_eq, decide_eq_true_eq]
  constructor
  · intro h
    cases h with
    | rel h => exact h
    | cons h => cases h
  · intro h
    exact .rel h
end
def spWhole (K : PySem.W.Frag) : Sp := fun vs H Q _ => ∃ v, vs = [v] ∧ Any K H v ∧ Q (.bl (wholeV v)) H
theorem ok_is_whole (T : Txt w K mg) : FnOk P w K mg base CX0 1 T.a_is_whole T.d_is_whole ["thing"] (spWhole K) := by
  refine T.F_is_whole.ok sc_is_whole (fun vs H Q E h => ?_) (fun cdv A outer s H vs Q E hr h => ?_)
  · obtain ⟨i, rfl, _⟩ := h
    rfl
  · obtain ⟨v, rfl, hv, k⟩ := h
    refine ⟨_, (pss_one (ps_ret (pe_and (pe_callB (k_isi K) (by rfl) T.z_isinstance (by decide +kernel) (pa_cons (pv 0) (pa_cons (pe_bltn (v := .ty "int") (by rfl) T.z_int (by decide +kernel) rfl) pa_nil))) (pe_one (pe_not (pe_callB (k_isi K) (by rfl) T.z_isinstance (by decide +kernel) (pa_cons (pv 0) (pa_cons (pe_bltn (v := .ty "bool") (by rfl) T.z_bool (by decide +kernel) rfl) pa_nil)))))))), ?_⟩
    obtain ⟨ty, t1, t2, t3, _⟩ := hv.ty
    refine ⟨_, rfl, _, _, _, _, _, rfl, ClsV.ty "int", t1, t2, _, rfl, ?_⟩
    cases hv with
    | int i => exact ⟨_, rfl, _, _, _, _, false, rfl, ClsV.ty "bool", t1, t3, _, rfl, k⟩
    | bl b => exact ⟨_, rfl, _, _, _, _, true, rfl, ClsV.ty "bool", t1, t3, _, rfl, k⟩
    | _ => exact k
/-! ### the pen, boats as data -/
def spPen (K : PySem.W.Frag) : Sp := fun vs H Q _ => ∃ (a : Addr) (ns : List Int), vs = [.ref a] ∧ SqL K H a (ns.map V.int) ∧ ns.length ≤ 63 ∧ ∀ H' p c, Same H H' → PenAt H' p c 0 → Cells K H' p c → Q (.ref p) H'
theorem cut_all (xs : List V) (i : Nat) (h : xs.length ≤ i) : cutV xs none (some (i : Int)) = xs := by
  unfold cutV
  rw [HT.sIx_none, HT.sIx_nat, List.drop_zero, Nat.min_eq_right h, Nat.sub_zero, List.take_length]
theorem ok_pen (T : Txt w K mg) : FnOk P w K mg base CX0 1 T.a_pen T.d_pen ["_law_script"] (spPen K) := by
  refine T.F_pen.ok sc_pen (fun vs H Q E h => ?_) (fun cdv A outer s H vs Q E hr h => ?_)
  · obtain ⟨a, ns, rfl, _⟩ := h
    rfl
  · obtain ⟨a, ns, rfl, hS, hl, k⟩ := h
    refine ⟨_, (pss_one (ps_ret (pe_lst (pa_cons (pe_slice (k_slL K) (pv 0) po_none (po_some pe_int)) (pa_cons pe_int (pa_cons pe_int pa_nil)))))), ?_⟩
    refine ⟨_, rfl, _, rfl, a, _, rfl, hS, fun c hc => ?_⟩
    generalize hX : upd H c _ = H1
    obtain ⟨S1, f1⟩ := alloc hc hX
    clear hX
    refine ⟨(by show 3 ≤ sizeLine; decide), fun p hp => ?_⟩
    generalize hX : upd H1 p _ = H2
    obtain ⟨S2, f2⟩ := alloc hp hX
    clear hX
    rw [show ((63 : Int)) = ((63 : Nat) : Int) from rfl, cut_all _ _ (by rw [List.length_map]; exact hl)] at f1
    exact k _ p c (S1.trans S2) ⟨0, 0, f2, Int.le_refl _, Int.le_refl _, Int.le_refl _⟩ ⟨ne_of_none f1 hp, ns, SqL.of (S2 _ _ f1), hl⟩
/-! ### is it a table? -/
def turnedB : V → Bool := betV (-999) 999
def spTableV (K : PySem.W.Frag) : Sp := fun vs H Q _ => ∃ (v : V), vs = [v] ∧ ((∃ (a : Addr) (xs : List V), v = .ref a ∧ SqT K H a xs ∧ (∀ x ∈ xs, ∀ H', Same H H' → Any K H' x) ∧ ∀ H', Same H H' → Q (.bl (decide (xs.length = 9) && xs.all turnedB)) H')
  ∨ (∃ ty, TyX K H v ty ∧ PySem.W.kitOne K ty (.type "tuple") = some false ∧ Q (.bl false) H))
theorem ok_is_table (T : Txt w K mg) : FnOk P w K mg base CX0 2 T.a_is_table T.d_is_table ["thing"] (spTableV K) := by
  have G_is_whole := ok_is_whole (P := P) (base := base) T
  refine T.F_is_table.ok sc_is_table (fun vs H Q E h => ?_) (fun cdv A outer s H vs Q E hr h => ?_)
  · obtain ⟨v, rfl, _⟩ := h
    rfl
  · obtain ⟨v, rfl, h⟩ := h
    have hr_is_whole := hr
    refine ⟨_, (pss_cons (ps_if (PW.pt (pw_or (pt_not (pt_val (pe_callB (k_isi K) (by rfl) T.z_isinstance (by decide +kernel) (pa_cons (pv 0) (pa_cons (pe_bltn (v := .ty "tuple") (by rfl) T.z_tuple (by decide +kernel) rfl) pa_nil))))) (pw_or1 (pt_cmpR op_ne (pe_callB (k_len K) (by rfl) T.z_len (by decide +kernel) (pa_cons (pv 0) pa_nil)) (pe_op op_add (pe_op op_sub (pe_glob (v := .int (4)) (by rfl) T.c_FULL_AHEAD ⟨_, rfl⟩) (pe_glob (v := .int (-4)) (by rfl) T.c_FULL_ASTERN ⟨_, rfl⟩)) pe_int) (nomark _))))) (pss_one (ps_ret pe_bl)) pss_nil)
  (pss_one (ps_ret (pe_callB (k_all K rfl) (by rfl) T.z_all (by decide +kernel) (pa_cons (pe_lc (own := [("turned", 1)]) rfl sc_is_table.nd (k_piT K (pv 0)) (blkOk_by (own := [("turned", 1)]) (N := ["thing", "turned"]) (sc := defScope s_is_table) (by decide +kernel)) (fun _ _ _ _ _ => (pg_name (i := 1) sc_is_table.nd rfl (by first | exact Or.inl rfl | exact Or.inr rfl))) (fun _ _ _ _ _ => pts_nil) (fun _ _ _ _ _ => (pe_and (pe_call G_is_whole hr_is_whole (by rfl) T.g_is_whole T.F_is_whole.kp T.b_is_whole .nil pass0 (pa_cons (pv 1) pa_nil)) (pe_one (pe_chain op_le op_le (pe_un un_neg (pe_glob (v := .int (999)) (by rfl) T.c_MOST_TURNS ⟨_, rfl⟩)) (pv 1) (pe_glob (v := .int (999)) (by rfl) T.c_MOST_TURNS ⟨_, rfl⟩)))))) pa_nil))))), ?_⟩
    rcases h with ⟨t, xs, rfl, hT, an, k⟩ | ⟨ty, f, e, k⟩
    rotate_left
    · refine ⟨_, rfl, _, _, _, _, false, rfl, ClsV.ty "tuple", f, e, _, rfl, ?_⟩
      show if true = true then _ else _
      exact k
    refine ⟨_, rfl, _, _, _, _, true, rfl, ClsV.ty "tuple", seqT_ty hT, kit_ty (by decide +kernel), _, rfl, ?_⟩
    show if false = true then _ else _
    refine ⟨_, rfl, t, xs, rfl, .inr hT, _, _, rfl, rfl, _, _, rfl, rfl, rfl, _, rfl, ite2 (fun z => ?_) (fun z => ?_)⟩
    · have z : ¬ xs.length = 9 := fun y => by
        rw [y] at z
        exact absurd z (by decide)
      rw [decide_eq_false z] at k
      exact k _ (Same.refl _)
    · have z : xs.length = 9 := by
        by_cases y : xs.length = 9
        · exact y
        · exfalso
          apply z
          show (!decide (V.int xs.length = V.int 9)) = true
          rw [decide_eq_false (fun q => y (by injection q with q; omega))]
          rfl
      refine ⟨_, rfl, t, rfl, ⟨_, hT⟩, fun D hD => ?_⟩
      refine lc_it walk_tup (fun i H' => Same H H' ∧ H' D = some (.lst (((xs.take i).map turnedB).map V.bl))) ⟨same_new (Same.refl _) hD, upd_same⟩ (fun i H' _ q => same_seqT q.1 hT) ?_ ?_
      · rintro i x H2 H3 hi ⟨s2, e2⟩ ⟨rfl, e3⟩
        refine ⟨rfl, _, rfl, x, rfl, an x (List.mem_of_getElem? e3) _ s2, ?_⟩
        have hv := an x (List.mem_of_getElem? e3) _ s2
        have fin : ∃ acc, H3 D = some (.lst acc) ∧ acc.length < sizeLine ∧ Same H (upd H3 D (.lst (acc ++ [V.bl (turnedB x)]))) ∧ upd H3 D (.lst (acc ++ [V.bl (turnedB x)])) D = some (.lst (((xs.take (i + 1)).map turnedB).map V.bl)) :=
          ⟨_, e2, by rw [List.length_map, List.length_map, List.length_take]; exact small1000 (by omega), same_own s2 hD, by
            rw [upd_same, List.take_succ, e3, List.map_append, List.map_append]
            rfl⟩
        refine ⟨_, rfl, ?_⟩
        cases hv with
        | int i =>
          show if true = true then _ else _
          refine ⟨_, rfl, _, rfl, _, _, rfl, rfl, _, rfl, ?_⟩
          rw [show turnedB (.int i) = (decide (-999 ≤ i) && decide (i ≤ 999)) from rfl] at fin
          cases z : decide ((-999 : Int) ≤ i) with
          | true =>
            rw [z, Bool.true_and] at fin
            refine ⟨_, _, rfl, rfl, fin⟩
          | false =>
            rw [z, Bool.false_and] at fin
            exact fin
        | _ => exact fin
      · rintro H2 ⟨s2, e2⟩
        refine ⟨D, _, rfl, SqL.of e2, ?_⟩
        rw [List.take_length]
        rw [decide_eq_true z, Bool.true_and] at k
        rw [List.all_map]
        exact k H2 s2
theorem ok_law_whole (T : Txt w K mg) : FnOk P w K mg base CX0 1 T.a_whole T.d_whole ["_law_what_is"] (spWhole K) := by
  refine T.F_whole.ok sc_whole (fun vs H Q E h => ?_) (fun cdv A outer s H vs Q E hr h => ?_)
  · obtain ⟨v, rfl, _⟩ := h
    rfl
  · obtain ⟨v, rfl, hv, k⟩ := h
    refine ⟨_, (pss_one (ps_ret (pe_and (pe_callB (k_isi K) (by rfl) T.z_isinstance (by decide +kernel) (pa_cons (pv 0) (pa_cons (pe_bltn (v := .ty "int") (by rfl) T.z_int (by decide +kernel) rfl) pa_nil))) (pe_one (pe_not (pe_callB (k_isi K) (by rfl) T.z_isinstance (by decide +kernel) (pa_cons (pv 0) (pa_cons (pe_bltn (v := .ty "bool") (by rfl) T.z_bool (by decide +kernel) rfl) pa_nil)))))))), ?_⟩
    obtain ⟨ty, t1, t2, t3, _⟩ := hv.ty
    refine ⟨_, rfl, _, _, _, _, _, rfl, ClsV.ty "int", t1, t2, _, rfl, ?_⟩
    cases hv with
    | int i => exact ⟨_, rfl, _, _, _, _, false, rfl, ClsV.ty "bool", t1, t3, _, rfl, k⟩
    | bl b => exact ⟨_, rfl, _, _, _, _, true, rfl, ClsV.ty "bool", t1, t3, _, rfl, k⟩
    | _ => exact k
theorem ok_law_is_table (T : Txt w K mg) : FnOk P w K mg base CX0 2 T.a_law_is_table T.d_law_is_table ["_law_what_is"] (spTableV K) := by
  have G_whole := ok_law_whole (P := P) (base := base) T
  refine T.F_law_is_table.ok sc_law_is_table (fun vs H Q E h => ?_) (fun cdv A outer s H vs Q E hr h => ?_)
  · obtain ⟨v, rfl, _⟩ := h
    rfl
  · obtain ⟨v, rfl, h⟩ := h
    have hr_whole := hr
    refine ⟨_, (pss_cons (ps_if (PW.pt (pw_or (pt_not (pt_val (pe_callB (k_isi K) (by rfl) T.z_isinstance (by decide +kernel) (pa_cons (pv 0) (pa_cons (pe_bltn (v := .ty "tuple") (by rfl) T.z_tuple (by decide +kernel) rfl) pa_nil))))) (pw_or1 (pt_cmpR op_ne (pe_callB (k_len K) (by rfl) T.z_len (by decide +kernel) (pa_cons (pv 0) pa_nil)) pe_int (nomark _))))) (pss_one (ps_ret pe_bl)) pss_nil)
  (pss_one (ps_ret (pe_cmpR (k_eqE K hr.units) (pe_lc (own := [("_law_one", 1)]) rfl sc_law_is_table.nd (k_piT K (pv 0)) (blkOk_by (own := [("_law_one", 1)]) (N := ["_law_what_is", "_law_one"]) (sc := defScope s_law_is_table) (by decide +kernel)) (fun _ _ _ _ _ => (pg_name (i := 1) sc_law_is_table.nd rfl (by first | exact Or.inl rfl | exact Or.inr rfl))) (fun _ _ _ _ _ => (pts_one (PW.pt (pw_or (pt_not (pt_val (pe_call G_whole hr_whole (by rfl) T.g_whole T.F_whole.kp T.b_whole .nil pass0 (pa_cons (pv 1) pa_nil)))) (pw_or (pt_cmpR op_lt (pv 1) (pe_un un_neg pe_int) (nomark _)) (pw_or1 (pt_cmpR op_gt (pv 1) pe_int (nomark _)))))))) (fun _ _ _ _ _ => (pv 1))) (pe_lst pa_nil) (nomark _))))), ?_⟩
    rcases h with ⟨t, xs, rfl, hT, an, k⟩ | ⟨ty, f, e, k⟩
    rotate_left
    · refine ⟨_, rfl, _, _, _, _, false, rfl, ClsV.ty "tuple", f, e, _, rfl, ?_⟩
      show if true = true then _ else _
      exact k
    refine ⟨_, rfl, _, _, _, _, true, rfl, ClsV.ty "tuple", seqT_ty hT, kit_ty (by decide +kernel), _, rfl, ?_⟩
    show if false = true then _ else _
    refine ⟨_, rfl, t, xs, rfl, .inr hT, rfl, _, rfl, ite2 (fun z => ?_) (fun z => ?_)⟩
    · have z : ¬ xs.length = 9 := fun y => by
        rw [y] at z
        exact absurd z (by decide)
      rw [decide_eq_false z] at k
      exact k _ (Same.refl _)
    · have z : xs.length = 9 := by
        by_cases y : xs.length = 9
        · exact y
        · exfalso
          apply z
          show (!decide (V.int xs.length = V.int 9)) = true
          rw [decide_eq_false (fun q => y (by injection q with q; omega))]
          rfl
      refine ⟨_, rfl, t, rfl, ⟨_, hT⟩, fun D hD => ?_⟩
      refine lc_it walk_tup (fun i H' => Same H H' ∧ H' D = some (.lst ((xs.take i).filter fun x => !turnedB x))) ⟨same_new (Same.refl _) hD, upd_same⟩ (fun i H' _ q => same_seqT q.1 hT) ?_ ?_
      · rintro i x H2 H3 hi ⟨s2, e2⟩ ⟨rfl, e3⟩
        have hv := an x (List.mem_of_getElem? e3) _ s2
        have put : turnedB x = false → ∃ acc, H3 D = some (.lst acc) ∧ acc.length < sizeLine ∧ Same H (upd H3 D (.lst (acc ++ [x]))) ∧ upd H3 D (.lst (acc ++ [x])) D = some (.lst ((xs.take (i + 1)).filter fun x => !turnedB x)) := fun b =>
          ⟨_, e2, small1000 (by have := List.length_filter_le (fun x => !turnedB x) (xs.take i); rw [List.length_take] at this; omega), same_own s2 hD, by
            rw [upd_same, List.take_succ, e3, List.filter_append]
            show _ = some (HO.lst (_ ++ [x].filter _))
            rw [List.filter_cons, b]
            rfl⟩
        have skip : turnedB x = true → Same H H3 ∧ H3 D = some (.lst ((xs.take (i + 1)).filter fun x => !turnedB x)) := fun b =>
          ⟨s2, by
            rw [e2, List.take_succ, e3, List.filter_append]
            show _ = some (HO.lst (_ ++ [x].filter _))
            rw [List.filter_cons, b]
            show _ = some (HO.lst (_ ++ []))
            rw [List.append_nil]⟩
        refine ⟨rfl, _, rfl, x, rfl, hv, _, rfl, ?_⟩
        cases hv with
        | int j =>
          show if false = true then _ else _
          refine ⟨_, rfl, _, rfl, _, _, rfl, rfl, _, rfl, ite2 (fun y => ?_) (fun y => ?_)⟩
          · have y : j < -999 := of_decide_eq_true y
            refine ⟨_, rfl, put ?_⟩
            show (decide (-999 ≤ j) && decide (j ≤ 999)) = false
            rw [decide_eq_false (by omega)]
            rfl
          · have y : ¬ j < -999 := fun q => y (decide_eq_true q)
            refine ⟨_, rfl, _, _, rfl, rfl, _, rfl, ?_⟩
            cases q : decide ((999 : Int) < j) with
            | true =>
              have q := of_decide_eq_true q
              refine ⟨_, rfl, put ?_⟩
              show (decide (-999 ≤ j) && decide (j ≤ 999)) = false
              rw [decide_eq_false (show ¬ j ≤ 999 by omega), Bool.and_false]
            | false =>
              have q := of_decide_eq_false q
              refine skip ?_
              show (decide (-999 ≤ j) && decide (j ≤ 999)) = true
              rw [decide_eq_true (by omega), decide_eq_true (by omega)]
              rfl
        | _ => exact ⟨_, rfl, put rfl⟩
      · rintro H2 ⟨s2, e2⟩
        refine ⟨(by show 0 ≤ sizeLine; decide), fun u hu => ?_⟩
        generalize hX : upd H2 u _ = H4
        obtain ⟨S4, f4⟩ := alloc hu hX
        clear hX
        rw [List.take_length] at e2
        refine ⟨D, u, _, rfl, rfl, SqL.of (S4 _ _ e2), SqL.of f4, ?_⟩
        have e : (xs.filter fun x => !turnedB x).isEmpty = xs.all turnedB := by
          rw [Bool.eq_iff_iff, List.isEmpty_iff, List.filter_eq_nil_iff, List.all_eq_true]
          simp
        rw [decide_eq_true z, Bool.true_and, ← e] at k
        exact k H4 (s2.trans S4)
/-! ### a table -/
def TabAt (K : PySem.W.Frag) (H : Hp) (q : Addr) (tb : List Int) : Prop := SqT K H q (tb.map V.int) ∧ tb.length = 9 ∧ ∀ x ∈ tb, -999 ≤ x ∧ x ≤ 999
theorem TabAt.same {K : PySem.W.Frag} {H H1 : Hp} {q : Addr} {tb : List Int} (h : TabAt K H q tb) (S : Same H H1) : TabAt K H1 q tb := ⟨same_seqT S h.1, h.2⟩
theorem TabAt.lst {K : PySem.W.Frag} {H H1 : Hp} {q p : Addr} {tb : List Int} {ys : List V} (h : TabAt K H q tb) (hp : H p = some (.lst ys)) (b : But p H H1) : TabAt K H1 q tb := ⟨seqT_lst h.1 hp b, h.2⟩
theorem TabAt.go {K : PySem.W.Frag} {H H1 : Hp} {q p c : Addr} {n : Nat} {tb : List Int} (h : TabAt K H q tb) (hp : PenAt H p c n) (b : But p H H1) : TabAt K H1 q tb := ⟨seqT_go h.1 hp b, h.2⟩
def spTable (K : PySem.W.Frag) : Sp := fun vs H Q _ => ∃ (p c : Addr) (n : Nat), vs = [.ref p] ∧ PenAt H p c n ∧ Cells K H p c ∧ n ≤ 80000 ∧
  ∀ H' q tb, Go K p c H (n + 30) H' → H q = none → TabAt K H' q tb → Q (.ref q) H'
theorem ok_table (T : Txt w K mg) : FnOk P w K mg base CX0 2 T.a_table T.d_table ["_law_pen_here"] (spTable K) := by
  have G_take := ok_take (P := P) (base := base) T
  refine T.F_table.ok sc_table (fun vs H Q E h => ?_) (fun cdv A outer s H vs Q E hr h => ?_)
  · obtain ⟨p, c, n, rfl, _⟩ := h
    rfl
  · obtain ⟨p, c, n, rfl, hp, hc, hn, k⟩ := h
    have hr_take := hr
    refine ⟨_, (pss_cons (ps_set (i := 1) sc_table.nd rfl (by first | exact Or.inl rfl | exact Or.inr rfl) (pe_call G_take hr_take (by rfl) T.g_take T.F_take.kp T.b_take .nil pass0 (pa_cons (pv 0) (pa_cons pe_int pa_nil))))
  (pss_cons (ps_if (pt_cmpR op_eq (pv 1) pe_int (nomark _)) (pss_cons (ps_set (i := 2) sc_table.nd rfl (by first | exact Or.inl rfl | exact Or.inr rfl) (pe_op op_sub (pe_call G_take hr_take (by rfl) T.g_take T.F_take.kp T.b_take .nil pass0 (pa_cons (pv 0) (pa_cons pe_int pa_nil))) pe_int))
  (pss_one (ps_ret (pe_callTy (k_tupOf K) (by rfl) T.z_tuple (by decide +kernel) (pa_cons (pe_lc (own := [("_law_k", 3)]) rfl sc_table.nd (pi_range1 (by rfl) T.z_range (pa_cons pe_int pa_nil)) (blkOk_by (own := [("_law_k", 3)]) (N := ["_law_pen_here", "_law_way", "_law_much", "_law_k"]) (sc := defScope s_table) (by decide +kernel)) (fun _ _ _ _ _ => (pg_name (i := 3) sc_table.nd rfl (by first | exact Or.inl rfl | exact Or.inr rfl))) (fun _ _ _ _ _ => pts_nil) (fun _ _ _ _ _ => (pe_op op_fdiv (pe_op op_mul (pv 2) (pe_op op_sub (pv 3) pe_int)) pe_int))) pa_nil))))) pss_nil)
  (pss_cons (ps_if (pt_cmpR op_eq (pv 1) pe_int (nomark _)) (pss_one (ps_ret (pe_callTy (k_tupOf K) (by rfl) T.z_tuple (by decide +kernel) (pa_cons (pe_lc (own := [("_law_k", 3)]) rfl sc_table.nd (pi_range1 (by rfl) T.z_range (pa_cons pe_int pa_nil)) (blkOk_by (own := [("_law_k", 3)]) (N := ["_law_pen_here", "_law_way", "_law_much", "_law_k"]) (sc := defScope s_table) (by decide +kernel)) (fun _ _ _ _ _ => (pg_name (i := 3) sc_table.nd rfl (by first | exact Or.inl rfl | exact Or.inr rfl))) (fun _ _ _ _ _ => pts_nil) (fun _ _ _ _ _ => (pe_ix (kx_list K) (pe_lst (pa_cons (pe_un un_neg pe_int) (pa_cons pe_int (pa_cons pe_int pa_nil)))) (pe_call G_take hr_take (by rfl) T.g_take T.F_take.kp T.b_take .nil pass0 (pa_cons (pv 0) (pa_cons pe_int pa_nil))) (fun _ _ => rfl)))) pa_nil)))) pss_nil)
  (pss_cons (ps_if (pt_cmpR op_eq (pv 1) pe_int (nomark _)) (pss_one (ps_ret (pe_callTy (k_tupOf K) (by rfl) T.z_tuple (by decide +kernel) (pa_cons (pe_lc (own := [("_law_k", 3)]) rfl sc_table.nd (pi_range1 (by rfl) T.z_range (pa_cons pe_int pa_nil)) (blkOk_by (own := [("_law_k", 3)]) (N := ["_law_pen_here", "_law_way", "_law_much", "_law_k"]) (sc := defScope s_table) (by decide +kernel)) (fun _ _ _ _ _ => (pg_name (i := 3) sc_table.nd rfl (by first | exact Or.inl rfl | exact Or.inr rfl))) (fun _ _ _ _ _ => pts_nil) (fun _ _ _ _ _ => (pe_op op_mul (pe_op op_sub (pe_call G_take hr_take (by rfl) T.g_take T.F_take.kp T.b_take .nil pass0 (pa_cons (pv 0) (pa_cons pe_int pa_nil))) pe_int) (pe_callTy call_int1 (by rfl) T.z_int (by decide +kernel) (pa_cons (pe_cmpR op_eq (pe_call G_take hr_take (by rfl) T.g_take T.F_take.kp T.b_take .nil pass0 (pa_cons (pv 0) (pa_cons pe_int pa_nil))) pe_int (nomark _)) pa_nil))))) pa_nil)))) pss_nil)
  (pss_cons (ps_if (pt_cmpR op_eq (pv 1) pe_int (nomark _)) (pss_one (ps_ret (pe_op L2.op_repT (pe_tup (pa_cons pe_int pa_nil)) pe_int))) pss_nil)
  (pss_one (ps_ret (pe_callTy (k_tupOf K) (by rfl) T.z_tuple (by decide +kernel) (pa_cons (pe_lc (own := [("_law_k", 3)]) rfl sc_table.nd (pi_range1 (by rfl) T.z_range (pa_cons pe_int pa_nil)) (blkOk_by (own := [("_law_k", 3)]) (N := ["_law_pen_here", "_law_way", "_law_much", "_law_k"]) (sc := defScope s_table) (by decide +kernel)) (fun _ _ _ _ _ => (pg_name (i := 3) sc_table.nd rfl (by first | exact Or.inl rfl | exact Or.inr rfl))) (fun _ _ _ _ _ => pts_nil) (fun _ _ _ _ _ => (pe_op op_sub (pe_call G_take hr_take (by rfl) T.g_take T.F_take.kp T.b_take .nil pass0 (pa_cons (pv 0) (pa_cons pe_int pa_nil))) pe_int))) pa_nil))))))))), ?_⟩
    refine ⟨_, rfl, p, c, n, _, rfl, hp, hc, by omega, by decide, by decide, fun H1 r1 g1 a1 b1 => ?_⟩
    -- what is made number by number
    have done : ∀ (D : Addr) (Hd : Hp) (xs : List Int), Go K p c H (n + 29) Hd → Hd D = some (.lst (xs.map V.int)) → xs.length = 9 → (∀ x ∈ xs, -999 ≤ x ∧ x ≤ 999) → ∀ l, Hd l = none → Q (.ref l) (upd Hd l (.tup (xs.map V.int))) :=
      fun D Hd xs g e l9 ok l hl => k _ l xs ((g.new hl).mono (by omega)) (g.free hl) ⟨SqT.of upd_same, l9, ok⟩
    have more : ∀ (i : Nat) (xs : List Int) (v : Int), xs.length = i → (∀ x ∈ xs, -999 ≤ x ∧ x ≤ 999) → -999 ≤ v → v ≤ 999 → (xs ++ [v]).length = i + 1 ∧ ∀ x ∈ xs ++ [v], -999 ≤ x ∧ x ≤ 999 := fun i xs v l ok v0 v1 => by
      refine ⟨by rw [List.length_append, l]; rfl, fun x hx => ?_⟩
      rcases List.mem_append.mp hx with z | z
      · exact ok x z
      · obtain rfl : x = v := by simpa using z
        exact ⟨v0, v1⟩
    refine ⟨_, rfl, rfl, _, rfl, ite2 (fun _ => ?_) (fun _ => ?_)⟩
    · refine ⟨_, rfl, p, c, _, _, rfl, g1.pen, g1.cel, by omega, by decide, by decide, fun H2 r2 g2 a2 b2 => ?_⟩
      refine ⟨_, _, rfl, rfl, ?_⟩
      have G2 := g1.trans g2
      refine ⟨9, rfl, by decide, by decide, fun D hD => ?_⟩
      have nD := Ne.symm (G2.ne_new hD)
      refine lc_it walk_range (fun i H' => Go K p c H (n + 2) H' ∧ ∃ xs : List Int, H' D = some (.lst (xs.map V.int)) ∧ xs.length = i ∧ ∀ x ∈ xs, -999 ≤ x ∧ x ≤ 999)
        ⟨(G2.new hD).mono (by omega), [], upd_same, rfl, fun x hx => nomatch hx⟩ (fun _ _ _ _ => trivial) ?_ ?_
      · rintro i x _ Ha hi ⟨ga, xs, ea, lx, ox⟩ ⟨rfl, rfl⟩
        have hi9 : i < 9 := hi
        have bnd : (r2 - 249) * (0 + (i : Int) - 4) ≤ 996 ∧ -996 ≤ (r2 - 249) * (0 + (i : Int) - 4) := by
          have e : ((r2 - 249) * (0 + (i : Int) - 4)).natAbs ≤ 249 * 4 := by
            rw [Int.natAbs_mul]
            exact Nat.mul_le_mul (by omega) (by omega)
          omega
        obtain ⟨l1, o1⟩ := more i xs ((r2 - 249) * (0 + (i : Int) - 4) / 2) lx ox (by omega) (by omega)
        refine ⟨rfl, _, rfl, _, rfl, _, _, rfl, rfl, _, _, rfl, rfl, .inl ⟨by omega, by omega⟩, _, _, rfl, rfl, ⟨by decide, by decide⟩, _, ea, by rw [List.length_map, lx]; exact small1000 (by omega), ?_⟩
        exact ⟨ga.own ((g1.trans g2).free hD) nD hc, _, by rw [upd_same, List.map_append]; rfl, l1, o1⟩
      · rintro Hd ⟨gd, xs, ed, lx, ox⟩
        exact ⟨D, _, rfl, .inl ⟨SqL.of ed, done D Hd xs (gd.mono (by omega)) ed lx ox⟩⟩
    refine ⟨_, rfl, rfl, _, rfl, ite2 (fun _ => ?_) (fun _ => ?_)⟩
    · refine ⟨9, rfl, by decide, by decide, fun D hD => ?_⟩
      have nD := Ne.symm (g1.ne_new hD)
      refine lc_it walk_range (fun i H' => Go K p c H (n + 1 + i) H' ∧ ∃ xs : List Int, H' D = some (.lst (xs.map V.int)) ∧ xs.length = i ∧ ∀ x ∈ xs, -999 ≤ x ∧ x ≤ 999)
        ⟨(g1.new hD).mono (by omega), [], upd_same, rfl, fun x hx => nomatch hx⟩ (fun _ _ _ _ => trivial) ?_ ?_
      · rintro i x _ Ha hi ⟨ga, xs, ea, lx, ox⟩ ⟨rfl, rfl⟩
        have hi9 : i < 9 := hi
        refine ⟨rfl, 999, rfl, (by show 3 ≤ sizeLine; decide), fun l hl => ?_⟩
        generalize hX : upd Ha l _ = Hb
        obtain ⟨Sb, fb⟩ := alloc hl hX
        clear hX
        have nl := Ne.symm (ga.ne_new hl)
        have gb := ga.same Sb
        refine ⟨_, rfl, p, c, _, _, rfl, gb.pen, gb.cel, by omega, by decide, by decide, fun Hc r3 g3 a3 b3 => ?_⟩
        obtain ⟨v, hv, ev⟩ := atI_lt (xs := [V.int (-999), V.int 999, V.int 0]) a3 b3
        obtain ⟨z, rfl, z0, z1⟩ : ∃ z : Int, v = V.int z ∧ -999 ≤ z ∧ z ≤ 999 := by
          have q : v = V.int (-999) ∨ v = V.int 999 ∨ v = V.int 0 := by simpa using hv
          rcases q with q | q | q <;> exact ⟨_, q, by decide, by decide⟩
        obtain ⟨l1, o1⟩ := more i xs z lx ox z0 z1
        refine ⟨l, _, _, _, rfl, rfl, g3.but.seqL nl (SqL.of fb), ev, _, g3.but _ _ nD (Sb _ _ ea), by rw [List.length_map, lx]; exact small1000 (by omega), ?_⟩
        exact ⟨((gb.trans g3).own (g1.free hD) nD hc).mono (by omega), _, by rw [upd_same, List.map_append]; rfl, l1, o1⟩
      · rintro Hd ⟨gd, xs, ed, lx, ox⟩
        exact ⟨D, _, rfl, .inl ⟨SqL.of ed, done D Hd xs (gd.mono (by show n + 1 + 9 ≤ _; omega)) ed lx ox⟩⟩
    refine ⟨_, rfl, rfl, _, rfl, ite2 (fun _ => ?_) (fun _ => ?_)⟩
    · refine ⟨9, rfl, by decide, by decide, fun D hD => ?_⟩
      have nD := Ne.symm (g1.ne_new hD)
      refine lc_it walk_range (fun i H' => Go K p c H (n + 1 + 2 * i) H' ∧ ∃ xs : List Int, H' D = some (.lst (xs.map V.int)) ∧ xs.length = i ∧ ∀ x ∈ xs, -999 ≤ x ∧ x ≤ 999)
        ⟨(g1.new hD).mono (by omega), [], upd_same, rfl, fun x hx => nomatch hx⟩ (fun _ _ _ _ => trivial) ?_ ?_
      · rintro i x _ Ha hi ⟨ga, xs, ea, lx, ox⟩ ⟨rfl, rfl⟩
        have hi9 : i < 9 := hi
        refine ⟨rfl, _, rfl, p, c, _, _, rfl, ga.pen, ga.cel, by omega, by decide, by decide, fun Hb r3 g3 a3 b3 => ?_⟩
        refine ⟨_, _, rfl, rfl, _, rfl, p, c, _, _, rfl, g3.pen, g3.cel, by omega, by decide, by decide, fun Hc r4 g4 a4 b4 => ?_⟩
        obtain ⟨z, ez, z0, z1⟩ : ∃ z : Int, (if decide (V.int r4 = V.int 0) = true then (1 : Int) else 0) = z ∧ 0 ≤ z ∧ z ≤ 1 := ⟨_, rfl, by split <;> decide, by split <;> decide⟩
        have bnd : (r3 - 3) * z ≤ 6 ∧ -6 ≤ (r3 - 3) * z := by
          have e : ((r3 - 3) * z).natAbs ≤ 6 * 1 := by
            rw [Int.natAbs_mul]
            exact Nat.mul_le_mul (by omega) (by omega)
          omega
        obtain ⟨l1, o1⟩ := more i xs ((r3 - 3) * z) lx ox (by omega) (by omega)
        refine ⟨rfl, .inr ⟨_, rfl, ?_⟩⟩
        rw [ez]
        refine ⟨_, _, rfl, rfl, .inr ⟨by omega, by omega⟩, _, (g3.trans g4).but _ _ nD ea, by rw [List.length_map, lx]; exact small1000 (by omega), ?_⟩
        exact ⟨((ga.trans (g3.trans g4)).own (g1.free hD) nD hc).mono (by omega), _, by rw [upd_same, List.map_append]; rfl, l1, o1⟩
      · rintro Hd ⟨gd, xs, ed, lx, ox⟩
        exact ⟨D, _, rfl, .inl ⟨SqL.of ed, done D Hd xs (gd.mono (by show n + 1 + 18 ≤ _; omega)) ed lx ox⟩⟩
    refine ⟨_, rfl, rfl, _, rfl, ite2 (fun _ => ?_) (fun _ => ?_)⟩
    · refine ⟨(by show 1 ≤ sizeLine; decide), fun u hu => ?_⟩
      generalize hX : upd H1 u _ = H2
      obtain ⟨S2, f2⟩ := alloc hu hX
      clear hX
      refine ⟨u, 9, _, rfl, rfl, SqT.of f2, by simp, by decide, by decide, by simp, fun q hq => ?_⟩
      have g2 := g1.same S2
      exact k _ q (List.replicate 9 0) ((g2.new hq).mono (by omega)) (g2.free hq) ⟨SqT.of upd_same, rfl, fun x hx => by rw [List.eq_of_mem_replicate hx]; decide⟩
    · refine ⟨9, rfl, by decide, by decide, fun D hD => ?_⟩
      have nD := Ne.symm (g1.ne_new hD)
      refine lc_it walk_range (fun i H' => Go K p c H (n + 1 + i) H' ∧ ∃ xs : List Int, H' D = some (.lst (xs.map V.int)) ∧ xs.length = i ∧ ∀ x ∈ xs, -999 ≤ x ∧ x ≤ 999)
        ⟨(g1.new hD).mono (by omega), [], upd_same, rfl, fun x hx => nomatch hx⟩ (fun _ _ _ _ => trivial) ?_ ?_
      · rintro i x _ Ha hi ⟨ga, xs, ea, lx, ox⟩ ⟨rfl, rfl⟩
        have hi9 : i < 9 := hi
        refine ⟨rfl, _, rfl, p, c, _, _, rfl, ga.pen, ga.cel, by omega, by decide, by decide, fun Hb r3 g3 a3 b3 => ?_⟩
        obtain ⟨l1, o1⟩ := more i xs (r3 - 999) lx ox (by omega) (by omega)
        refine ⟨_, _, rfl, rfl, _, g3.but _ _ nD ea, by rw [List.length_map, lx]; exact small1000 (by omega), ?_⟩
        exact ⟨((ga.trans g3).own (g1.free hD) nD hc).mono (by omega), _, by rw [upd_same, List.map_append]; rfl, l1, o1⟩
      · rintro Hd ⟨gd, xs, ed, lx, ox⟩
        exact ⟨D, _, rfl, .inl ⟨SqL.of ed, done D Hd xs (gd.mono (by show n + 1 + 9 ≤ _; omega)) ed lx ox⟩⟩
/-! ### an odd thing for a table's place -/
/-- what was new since H0, and the tuples, are kept -/
def Kp (K : PySem.W.Frag) (H0 H H1 : Hp) : Prop := (∀ b o, H0 b = none → H b = some o → H1 b = some o) ∧ ∀ a xs, SqT K H a xs → SqT K H1 a xs
theorem Kp.same {K : PySem.W.Frag} {H0 H H1 H2 : Hp} (h : Kp K H0 H H1) (s : Same H1 H2) : Kp K H0 H H2 := ⟨fun b o h1 h2 => s _ _ (h.1 b o h1 h2), fun a xs q => same_seqT s (h.2 a xs q)⟩
theorem Kp.inner {K : PySem.W.Frag} {H H1 H2 H3 H4 : Hp} {p c : Addr} {n m k : Nat} (g1 : Go K p c H n H1) (g2 : Go K p c H1 m H2) (g3 : Go K p c H2 k H3) (h : Kp K H H3 H4) : Kp K H1 H2 H4 := by
  obtain ⟨_, _, e, _⟩ := id g1.pen
  obtain ⟨_, _, e2, _⟩ := id g2.pen
  refine ⟨fun b o h1 h2 => h.1 b o (g1.free h1) (g3.but b o (fun z => ?_) h2), fun a xs q => h.2 a xs (seqT_go q g2.pen g3.but)⟩
  rw [z, e] at h1
  cases h1
/-- a thing in a table's place: its data, its texts short -/
structure Ew (K : PySem.W.Frag) (H : Hp) (x : V) (d : PyData) : Prop where
  tg : Tg K H x d
  rp : RepD d 2 60
  st : ∀ t, x = .str t → TOk 400 t
def EwS (K : PySem.W.Frag) (H : Hp) (xs : List V) : Prop := ∀ x ∈ xs, ∃ d, Ew K H x d
theorem Ew.int {K : PySem.W.Frag} {H : Hp} {i : Int} (h : i.natAbs < 2 ^ 398) : Ew K H (.int i) (.int i) := ⟨.int i, (RepD.of (RepOk.int h)).mono (by decide) (by decide), fun _ z => nomatch z⟩
theorem Ew.bl {K : PySem.W.Frag} {H : Hp} {b : Bool} : Ew K H (.bl b) (.bool b) := ⟨.bl b, (RepD.of (RepOk.bool b)).mono (by decide) (by decide), fun _ z => nomatch z⟩
theorem Ew.non {K : PySem.W.Frag} {H : Hp} : Ew K H .non .none := ⟨.non, (RepD.of RepOk.none).mono (by decide) (by decide), fun _ z => nomatch z⟩
theorem Ew.str {K : PySem.W.Frag} {H : Hp} {t : Str} (h : TOk 20 t) : Ew K H (.str t) (.str t) := ⟨.str t, (RepD.of (RepOk.tok h)).mono (by decide) (by decide), fun _ z => by cases z; exact h.mono (by decide)⟩
theorem Ew.any {K : PySem.W.Frag} {H : Hp} {x : V} {d : PyData} (h : Ew K H x d) : Any K H x := by
  obtain ⟨tg, _, st⟩ := h
  cases tg with
  | non => exact .non
  | bl b => exact .bl b
  | int i => exact .int i
  | str t => exact .str (st t rfl)
  | tup s _ => exact .tup (seqT_ty s)
  | lst s _ _ => exact .lst (seqL_ty s)
  | dct e _ => exact .dict (.base (.dK e))
theorem Ew.same {K : PySem.W.Frag} {H H1 : Hp} {x : V} {d : PyData} (h : Ew K H x d) (s : Same H H1) : Ew K H1 x d := ⟨tg_keep (.of_same s) d x h.tg, h.rp, h.st⟩
def spOddT (K : PySem.W.Frag) : Sp := fun vs H Q _ => ∃ (p c : Addr) (n : Nat) (i : Int), vs = [.ref p, .int i] ∧ PenAt H p c n ∧ Cells K H p c ∧ n ≤ 90000 ∧ -999 ≤ i ∧ i ≤ 999 ∧
  ∀ H' x, Go K p c H (n + 1) H' → (∀ H'', Kp K H H' H'' → ∃ d, Ew K H'' x d) → Q x H'
theorem ok_odd (T : Txt w K mg) : FnOk P w K mg base CX0 2 T.a_odd T.d_odd ["_law_pen_here", "_law_part"] (spOddT K) := by
  have G_take := ok_take (P := P) (base := base) T
  refine T.F_odd.ok sc_odd (fun vs H Q E h => ?_) (fun cdv A outer s H vs Q E hr h => ?_)
  · obtain ⟨p, c, n, i, rfl, _⟩ := h
    rfl
  · obtain ⟨p, c, n, i, rfl, hp, hc, hn, i0, i1, k⟩ := h
    have hr_take := hr
    refine ⟨_, (pss_cons (ps_set (i := 2) sc_odd.nd rfl (by first | exact Or.inl rfl | exact Or.inr rfl) (pe_lst (pa_cons pe_int (pa_cons (pe_un un_neg pe_int) (pa_cons pe_int (pa_cons (pe_un un_neg pe_int) (pa_cons (pe_op op_pow pe_int pe_int) (pa_cons pe_bl (pa_cons pe_bl (pa_cons pe_non (pa_cons (pe_callTy call_str_int (by rfl) T.z_str (by decide +kernel) (pa_cons (pv 1) pa_nil)) (pa_cons (pe_lstB (pa_cons (pv 1) pa_nil)) (pa_cons (pe_tup (pa_cons (pv 1) pa_nil)) (pa_cons pe_dnewK (pa_cons (pe_disp (pps_cons (pv 1) pe_int pps_nil) (by rfl) (by rfl) (fun z => by cases z) (by decide)) (pa_cons pe_str pa_nil))))))))))))))))
  (pss_one (ps_ret (pe_ix (kx_list K) (pe_op op_cat (pv 2) (pe_lst (pa_cons (pe_op op_add (pv 1) pe_int) (pa_cons (pe_op op_sub (pv 1) pe_int) pa_nil)))) (pe_call G_take hr_take (by rfl) T.g_take T.F_take.kp T.b_take .nil pass0 (pa_cons (pv 0) (pa_cons pe_int pa_nil))) (fun _ _ => rfl))))), ?_⟩
    have g0 := Go.refl hp hc
    have it := int_tok (i := i) (k := 12) (by omega) (by decide)
    refine ⟨_, rfl, _, rfl, _, _, rfl, rfl, ⟨by decide, by decide, by decide⟩, _, rfl, _, rfl, ?_⟩
    refine ⟨Nat.lt_trans (log2_small (i := i) (by omega)) (by decide), ?_⟩
    refine ⟨_, rfl, (by show 1 ≤ sizeLine; decide), fun u1 hu1 ns1 => ?_⟩
    generalize hX : upd H u1 _ = H1
    obtain ⟨S1, f1⟩ := alloc hu1 hX
    clear hX
    refine ⟨_, rfl, (by show 1 ≤ sizeLine; decide), fun u2 hu2 => ?_⟩
    generalize hX : upd H1 u2 _ = H2
    obtain ⟨S2, f2⟩ := alloc hu2 hX
    clear hX
    intro u3 hu3
    generalize hX : upd H2 u3 _ = H3
    obtain ⟨S3, f3⟩ := alloc hu3 hX
    clear hX
    intro u4 hu4
    refine ⟨_, rfl, ?_⟩
    refine ⟨upd_same, [(.inl i, .int 1)], rfl, by show 1 ≤ 15; decide, ?_⟩
    generalize hX : upd (upd H3 u4 _) u4 _ = H4
    obtain ⟨S4, f4⟩ := owned (same_new (Same.refl _) hu4) hu4 hX
    clear hX
    refine ⟨(by show 14 ≤ sizeLine; decide), fun l1 hl1 => ?_⟩
    generalize hX : upd H4 l1 _ = H5
    obtain ⟨S5, f5⟩ := alloc hl1 hX
    clear hX
    refine ⟨_, rfl, ?_⟩
    refine ⟨_, rfl, _, _, rfl, rfl, _, rfl, _, _, rfl, rfl, (by show 2 ≤ sizeLine; decide), fun l2 hl2 => ?_⟩
    generalize hX : upd H5 l2 _ = H6
    obtain ⟨S6, f6⟩ := alloc hl2 hX
    clear hX
    refine ⟨l1, l2, _, _, rfl, rfl, S6 _ _ f5, f6, (by show 14 + 2 ≤ sizeLine; decide), fun l3 hl3 => ?_⟩
    generalize hX : upd H6 l3 _ = H7
    obtain ⟨S7, f7⟩ := alloc hl3 hX
    clear hX
    have U1 := S1
    have U2 := U1.trans S2
    have U3 := U2.trans S3
    have U4 := U3.trans S4
    have U7 := U4.trans (S5.trans (S6.trans S7))
    have g7 := g0.same U7
    have n3 := Ne.symm ((g0.same (U4.trans (S5.trans S6))).ne_new hl3)
    refine ⟨_, rfl, p, c, _, _, rfl, g7.pen, g7.cel, by omega, by decide, by decide, fun H8 r g8 a8 b8 => ?_⟩
    obtain ⟨x, hx, ex⟩ := atI_lt a8 (show r < (([V.int 1000, V.int (-1000), V.int 999, V.int (-999), V.int (10 ^ Int.toNat 40), V.bl true, V.bl false, V.non, V.str (toString i : String), V.ref u1, V.ref u2, V.ref u3, V.ref u4, V.str (Str.ofString "")] ++ [V.int (i + 1), V.int (i - 1)] : List V).length : Int) from b8)
    refine ⟨l3, _, _, _, rfl, rfl, g8.but.seqL n3 (SqL.of f7), ex, ?_⟩
    refine k H8 x ((g7.trans g8).mono (by omega)) fun H9 kp => ?_
    have k1 : ∀ {u : Addr} {o : HO} {Ha Hb : Hp}, Same H Ha → Ha u = none → Same Hb H7 → Hb u = some o → H9 u = some o := fun {u o Ha Hb} s n s2 e =>
      kp.1 _ _ ((g0.same s).free n) (g8.but _ _ (Ne.symm ((g0.same s).ne_new n)) (s2 _ _ e))
    have V4 := S5.trans (S6.trans S7)
    have V3 := S4.trans V4
    have V2 := S3.trans V3
    have V1 := S2.trans V2
    have w1 := k1 (Same.refl _) hu1 V1 f1
    have w2 := k1 U1 hu2 V2 f2
    have w3 := k1 U2 hu3 V3 f3
    have w4 := k1 U3 hu4 V4 f4
    clear ex
    have sm : RepD (.int i) 0 0 := RepD.of (RepOk.int (i := i) (Nat.lt_of_le_of_lt (show i.natAbs ≤ 999 by omega) (by decide +kernel)))
    have s1 : ∀ d ∈ [PyData.int i], RepD d 0 0 := fun d hd => by
      rw [List.mem_singleton.mp hd]
      exact sm
    have big : ∀ z : Int, z.natAbs ≤ 1000 → z.natAbs < 2 ^ 398 := fun z h => Nat.lt_of_le_of_lt h (by decide +kernel)
    simp only [List.mem_append, List.mem_cons, List.not_mem_nil, or_false] at hx
    rcases hx with (z | z | z | z | z | z | z | z | z | z | z | z | z | z) | z | z <;> subst z
    · exact ⟨_, .int (big _ (by decide))⟩
    · exact ⟨_, .int (big _ (by decide))⟩
    · exact ⟨_, .int (big _ (by decide))⟩
    · exact ⟨_, .int (big _ (by decide))⟩
    · exact ⟨_, .int (by decide +kernel)⟩
    · exact ⟨_, .bl⟩
    · exact ⟨_, .bl⟩
    · exact ⟨_, .non⟩
    · exact ⟨_, .str (it.mono (by decide))⟩
    · exact ⟨_, .lst (SqL.of w1) ns1 (.cons (.int i) .nil), (RepD.list s1).mono (by decide) (by show 1 * (0 + 1) ≤ 60; decide), fun _ z => nomatch z⟩
    · exact ⟨_, .tup (SqT.of w2) (.cons (.int i) .nil), (RepD.tuple s1).mono (by decide) (by show 1 * (0 + 1) ≤ 60; decide), fun _ z => nomatch z⟩
    · exact ⟨_, .dct w3 .nil, RepD.d0.mono (by decide) (by decide), fun _ z => nomatch z⟩
    · exact ⟨_, .dct w4 (.cons (.int 1) .nil), (RepD.d1 sm (RepD.of (RepOk.int (i := 1) (by decide +kernel)))).mono (by decide) (by decide), fun _ z => nomatch z⟩
    · exact ⟨_, .str ⟨by decide +kernel, by decide +kernel⟩⟩
    · exact ⟨_, .int (big _ (by omega))⟩
    · exact ⟨_, .int (big _ (by omega))⟩
/-! ### a table, bent -/
def Tis (K : PySem.W.Frag) (H : Hp) (v : V) (b : Bool) : Prop :=
  (∃ (a : Addr) (xs : List V), v = .ref a ∧ SqT K H a xs ∧ (∀ x ∈ xs, ∀ H', Same H H' → Any K H' x) ∧ b = (decide (xs.length = 9) && xs.all turnedB)) ∨
  (∃ ty, (∀ H', Same H H' → TyX K H' v ty) ∧ PySem.W.kitOne K ty (.type "tuple") = some false ∧ b = false)
def Kt (K : PySem.W.Frag) (H : Hp) (v : V) : Prop := ∃ b d, Tis K H v b ∧ Tz K H v d
theorem ews_out {K : PySem.W.Frag} {H : Hp} : ∀ {xs : List V}, EwS K H xs → ∃ ds, TgAll K H xs ds ∧ (∀ d ∈ ds, RepD d 2 60) ∧ ds.length = xs.length
  | [], _ => ⟨[], .nil, (fun _ z => nomatch z), rfl⟩
  | x :: xs, h => by
    obtain ⟨d, e⟩ := h x (List.mem_cons_self ..)
    obtain ⟨ds, h1, h2, h3⟩ := ews_out fun y hy => h y (List.mem_cons_of_mem _ hy)
    refine ⟨d :: ds, .cons e.tg h1, fun y hy => ?_, congrArg (· + 1) h3⟩
    rcases List.mem_cons.mp hy with z | z
    · rw [z]
      exact e.rp
    · exact h2 y z
theorem kt_tup {K : PySem.W.Frag} {H : Hp} {q : Addr} {xs : List V} (sq : SqT K H q xs) (h : EwS K H xs) (l : xs.length ≤ 100) : Kt K H (.ref q) := by
  obtain ⟨ds, h1, h2, h3⟩ := ews_out h
  refine ⟨_, _, .inl ⟨q, xs, rfl, sq, fun x hx H' s => ?_, rfl⟩, .tg (.tup sq h1) (RepD.tuple h2) (by decide) ?_⟩
  · obtain ⟨d, e⟩ := h x hx
    exact (e.same s).any
  · exact Nat.le_trans (Nat.mul_le_mul_right _ (by omega : ds.length ≤ 100)) (by decide)
theorem ews_tab {K : PySem.W.Frag} {H : Hp} {tb : List Int} (h : ∀ x ∈ tb, -999 ≤ x ∧ x ≤ 999) : EwS K H (tb.map V.int) := fun x hx => by
  obtain ⟨i, hi, rfl⟩ := List.mem_map.mp hx
  obtain ⟨h1, h2⟩ := h i hi
  exact ⟨_, .int (Nat.lt_of_le_of_lt (show i.natAbs ≤ 1000 by omega) (by decide +kernel))⟩
theorem cut_sub (xs : List V) (lo hi : Option Int) : ∀ x ∈ cutV xs lo hi, x ∈ xs := fun x hx => by
  unfold cutV at hx
  exact List.mem_of_mem_drop (List.mem_of_mem_take hx)
theorem cut_len (xs : List V) (lo hi : Option Int) : (cutV xs lo hi).length ≤ xs.length := by
  unfold cutV
  rw [List.length_take, List.length_drop]
  omega
theorem ews_app {K : PySem.W.Frag} {H : Hp} {xs ys : List V} (h : EwS K H xs) (h2 : EwS K H ys) : EwS K H (xs ++ ys) := fun x hx => (List.mem_append.mp hx).elim (h x) (h2 x)
theorem ews_cut {K : PySem.W.Frag} {H : Hp} {xs : List V} (h : EwS K H xs) (lo hi : Option Int) : EwS K H (cutV xs lo hi) := fun x hx => h x (cut_sub xs lo hi x hx)
theorem ews_one {K : PySem.W.Frag} {H : Hp} {x : V} (h : ∃ d, Ew K H x d) : EwS K H [x] := fun y hy => by rw [List.mem_singleton.mp hy]; exact h
/-- a dict of small numbers -/
def Gd (kv : Key × V) : Prop := ∃ j i : Int, kv = (.inl j, .int i) ∧ j.natAbs ≤ 1000 ∧ i.natAbs ≤ 1000
theorem gd_put {kvs : List (Key × V)} {k : Key} {v : V} (h : ∀ q ∈ kvs, Gd q) (g : Gd (k, v)) : ∀ q ∈ putK kvs k v, Gd q := by
  intro q hq
  unfold putK at hq
  split at hq
  · obtain ⟨r, hr, e⟩ := List.mem_map.mp hq
    subst e
    split
    · rename_i z
      rw [z]
      exact g
    · exact h r hr
  · rcases List.mem_append.mp hq with z | z
    · exact h q z
    · rw [List.mem_singleton.mp z]
      exact g
theorem gd_merge : ∀ (more kvs : List (Key × V)), (∀ q ∈ more, Gd q) → (∀ q ∈ kvs, Gd q) → ∀ q ∈ mergeK kvs more, Gd q
  | [], _, _, h => h
  | m :: more, kvs, g, h => gd_merge more (putK kvs m.1 m.2) (fun q hq => g q (List.mem_cons_of_mem _ hq)) (gd_put h (g m (List.mem_cons_self ..)))
theorem gd_num : ∀ (xs : List V) (i : Nat), (∀ x ∈ xs, ∃ j : Int, x = .int j ∧ -999 ≤ j ∧ j ≤ 999) → i + xs.length ≤ 1000 → ∀ q ∈ numbered i xs, Gd q
  | [], _, _, _ => fun _ z => nomatch z
  | x :: xs, i, h, l => fun q hq => by
    rw [List.length_cons] at l
    rcases List.mem_cons.mp hq with z | z
    · obtain ⟨j, rfl, h1, h2⟩ := h x (List.mem_cons_self ..)
      exact ⟨i, j, z, by omega, by omega⟩
    · exact gd_num xs (i + 1) (fun y hy => h y (List.mem_cons_of_mem _ hy)) (by omega) q z
theorem gd_out {K : PySem.W.Frag} {H : Hp} : ∀ {kvs : List (Key × V)}, (∀ q ∈ kvs, Gd q) → ∃ es, TgKv K H kvs es ∧ es.length = kvs.length ∧ ∀ e ∈ es, RepD e.1 0 0 ∧ RepD e.2 0 0
  | [], _ => ⟨[], .nil, rfl, fun _ z => nomatch z⟩
  | q :: kvs, h => by
    obtain ⟨j, i, rfl, h1, h2⟩ := h q (List.mem_cons_self ..)
    obtain ⟨es, a1, a2, a3⟩ := gd_out fun y hy => h y (List.mem_cons_of_mem _ hy)
    have sm : ∀ z : Int, z.natAbs ≤ 1000 → RepD (.int z) 0 0 := fun z l => RepD.of (RepOk.int (Nat.lt_of_le_of_lt l (by decide +kernel)))
    refine ⟨_, .cons (.int i) a1, congrArg (· + 1) a2, fun e he => ?_⟩
    rcases List.mem_cons.mp he with z | z
    · rw [z]
      exact ⟨sm j h1, sm i h2⟩
    · exact a3 e z
def spBentT (K : PySem.W.Frag) : Sp := fun vs H Q _ => ∃ (p c t : Addr) (n : Nat) (tb : List Int), vs = [.ref p, .ref t] ∧ PenAt H p c n ∧ Cells K H p c ∧ n ≤ 80000 ∧ TabAt K H t tb ∧
  ∀ H' v, Go K p c H (n + 6) H' → (∀ H'', Kp K H H' H'' → Kt K H'' v) → Q v H'
theorem ok_bent (T : Txt w K mg) : FnOk P w K mg base CX0 3 T.a_bent T.d_bent ["_law_pen_here", "_law_table_here"] (spBentT K) := by
  have G_take := ok_take (P := P) (base := base) T
  have G_odd := ok_odd (P := P) (base := base) T
  refine T.F_bent.ok sc_bent (fun vs H Q E h => ?_) (fun cdv A outer s H vs Q E hr h => ?_)
  · obtain ⟨p, c, t, n, tb, rfl, _⟩ := h
    rfl
  · obtain ⟨p, c, t, n, tb, rfl, hp, hc, hn, hT, k⟩ := h
    have hr_odd := hr
    have hr_take := hr.mono (show 1 ≤ 2 by decide)
    refine ⟨_, (pss_cons (ps_set (i := 2) sc_bent.nd rfl (by first | exact Or.inl rfl | exact Or.inr rfl) (pe_call G_take hr_take (by rfl) T.g_take T.F_take.kp T.b_take .nil pass0 (pa_cons (pv 0) (pa_cons pe_int pa_nil))))
  (pss_cons (ps_set (i := 3) sc_bent.nd rfl (by first | exact Or.inl rfl | exact Or.inr rfl) (pe_call G_take hr_take (by rfl) T.g_take T.F_take.kp T.b_take .nil pass0 (pa_cons (pv 0) (pa_cons pe_int pa_nil))))
  (pss_cons (ps_if (pt_cmpR op_lt (pv 2) pe_int (nomark _)) (pss_cons (ps_set (i := 4) sc_bent.nd rfl (by first | exact Or.inl rfl | exact Or.inr rfl) (pe_op (k_catU K) (pe_op (k_catU K) (pe_slice (k_slU K) (pv 1) po_none (po_some (pv 3))) (pe_tup (pa_cons (pe_call G_odd hr_odd (by rfl) T.g_odd T.F_odd.kp T.b_odd .nil pass0 (pa_cons (pv 0) (pa_cons (pe_ix (kx_tup K) (pv 1) (pv 3) (fun _ _ => rfl)) pa_nil))) pa_nil))) (pe_slice (k_slU K) (pv 1) (po_some (pe_op op_add (pv 3) pe_int)) po_none)))
  (pss_cons (ps_if (pt_cmpR op_eq (pv 2) pe_int (nomark _)) (pss_cons (ps_set (i := 3) sc_bent.nd rfl (by first | exact Or.inl rfl | exact Or.inr rfl) (pe_call G_take hr_take (by rfl) T.g_take T.F_take.kp T.b_take .nil pass0 (pa_cons (pv 0) (pa_cons pe_int pa_nil))))
  (pss_one (ps_set (i := 4) sc_bent.nd rfl (by first | exact Or.inl rfl | exact Or.inr rfl) (pe_op (k_catU K) (pe_op (k_catU K) (pe_slice (k_slU K) (pv 4) po_none (po_some (pv 3))) (pe_tup (pa_cons (pe_call G_odd hr_odd (by rfl) T.g_odd T.F_odd.kp T.b_odd .nil pass0 (pa_cons (pv 0) (pa_cons (pe_ix (kx_tup K) (pv 1) (pv 3) (fun _ _ => rfl)) pa_nil))) pa_nil))) (pe_slice (k_slU K) (pv 4) (po_some (pe_op op_add (pv 3) pe_int)) po_none))))) pss_nil)
  (pss_one (ps_ret (pv 4))))) pss_nil)
  (pss_cons (ps_if (pt_cmpR op_eq (pv 2) pe_int (nomark _)) (pss_one (ps_ret (pe_op (k_catU K) (pe_slice (k_slU K) (pv 1) po_none (po_some (pv 3))) (pe_slice (k_slU K) (pv 1) (po_some (pe_op op_add (pv 3) pe_int)) po_none)))) pss_nil)
  (pss_cons (ps_if (pt_cmpR op_eq (pv 2) pe_int (nomark _)) (pss_one (ps_ret (pe_op (k_catU K) (pe_op (k_catU K) (pe_slice (k_slU K) (pv 1) po_none (po_some (pv 3))) (pe_tup (pa_cons (pe_ix (kx_tup K) (pv 1) (pv 3) (fun _ _ => rfl)) pa_nil))) (pe_slice (k_slU K) (pv 1) (po_some (pv 3)) po_none)))) pss_nil)
  (pss_cons (ps_if (pt_cmpR op_eq (pv 2) pe_int (nomark _)) (pss_one (ps_ret (pe_revU K (pv 1)))) pss_nil)
  (pss_cons (ps_set (i := 5) sc_bent.nd rfl (by first | exact Or.inl rfl | exact Or.inr rfl) (pe_lst (pa_cons (pe_callTy (k_listOf K) (by rfl) T.z_list (by decide +kernel) (pa_cons (pv 1) pa_nil)) (pa_cons pe_non (pa_cons pe_bl (pa_cons pe_int (pa_cons pe_str (pa_cons pe_dnewK (pa_cons (pe_tup pa_nil) (pa_cons (pe_tup (pa_cons (pv 1) pa_nil)) (pa_cons (pe_lstB (pa_cons (pv 1) pa_nil)) (pa_cons (pe_dictE K rfl (by rfl) T.z_dict (by rfl) T.z_enumerate (pv 1)) (pa_cons (pe_op (k_repU K) (pv 1) pe_int) pa_nil)))))))))))))
  (pss_one (ps_ret (pe_ix (kx_list K) (pv 5) (pe_call G_take hr_take (by rfl) T.g_take T.F_take.kp T.b_take .nil pass0 (pa_cons (pv 0) (pa_cons pe_int pa_nil))) (fun _ _ => rfl))))))))))), ?_⟩
    obtain ⟨sqT, l9, rng⟩ := hT
    have lx : (tb.map V.int).length = 9 := by rw [List.length_map]; exact l9
    have isI : ∀ x ∈ tb.map V.int, ∃ i : Int, x = .int i ∧ -999 ≤ i ∧ i ≤ 999 := fun x hx => by
      obtain ⟨i, hi, rfl⟩ := List.mem_map.mp hx
      exact ⟨i, rfl, rng i hi⟩
    have ews : ∀ H', EwS K H' (tb.map V.int) := fun H' => ews_tab rng
    have xtb : ∃ ns : List Int, tb.map V.int = ns.map V.int ∧ (∀ n ∈ ns, -999 ≤ n ∧ n ≤ 999) ∧ ns.length = 9 := ⟨tb, rfl, rng, l9⟩
    generalize tb.map V.int = xs at *
    refine ⟨_, rfl, p, c, _, _, rfl, hp, hc, by omega, by decide, by decide, fun H1 way g1 w0 w1 => ?_⟩
    refine ⟨_, rfl, p, c, _, _, rfl, g1.pen, g1.cel, by omega, by decide, by decide, fun H2 at_ g2 a0 a1 => ?_⟩
    have gg := g1.trans g2
    have T2 := seqT_go (seqT_go sqT hp g1.but) g1.pen g2.but
    have cl := cut_len xs
    have sz : ∀ n : Nat, n ≤ 200 → n ≤ sizeLine := fun n h => Nat.le_trans h (by decide)
    obtain ⟨v, hv, ev⟩ := atI_lt (xs := xs) a0 (by omega)
    obtain ⟨i, rfl, i0, i1⟩ := isI v hv
    refine ⟨_, rfl, _, _, rfl, rfl, _, rfl, ite2 (fun y1 => ?_) (fun y1 => ?_)⟩
    · -- an odd place
      refine ⟨_, rfl, _, rfl, _, rfl, t, _, rfl, T2, fun q1 H3 S3 sq1 => ?_⟩
      have g3 := gg.same S3
      refine ⟨_, rfl, _, rfl, _, rfl, t, _, _, _, rfl, rfl, same_seqT S3 T2, ev, p, c, _, i, rfl, g3.pen, g3.cel, by omega, i0, i1, fun H4 x g4 clo => ⟨(by show 1 ≤ sizeLine; decide), fun u hu => ?_⟩⟩
      generalize hX : upd H4 u _ = H5
      obtain ⟨S5, f5⟩ := alloc hu hX
      clear hX
      have tk5 : ∀ a ys, SqT K H3 a ys → SqT K H5 a ys := fun a ys q => same_seqT S5 (seqT_go q g3.pen g4.but)
      refine ⟨q1, u, _, _, rfl, rfl, tk5 _ _ sq1, SqT.of f5, sz _ (by have := cl none (some at_); show _ + 1 ≤ 200; omega), fun q2 H6 S6 sq2 => ?_⟩
      refine ⟨_, rfl, _, rfl, _, _, rfl, rfl, _, rfl, t, _, rfl, same_seqT S6 (tk5 _ _ (same_seqT S3 T2)), fun q3 H7 S7 sq3 => ?_⟩
      refine ⟨q2, q3, _, _, rfl, rfl, same_seqT S7 sq2, sq3, sz _ (by have := cl none (some at_); have := cl (some (at_ + 1)) none; rw [List.length_append]; show _ + 1 + _ ≤ 200; omega), fun q4 H8 S8 sq4 => ?_⟩
      have S48 := S5.trans (S6.trans (S7.trans S8))
      have g48 := g4.self.same S48
      have G8 := (g3.trans g4).same S48
      have in1 : ∀ {Ha Hb : Hp} {k : Nat}, Go K p c H4 k Ha → Kp K H Ha Hb → ∃ d, Ew K Hb x d := fun g kp => clo _ (Kp.inner g3 g4 g kp)
      refine ⟨_, rfl, rfl, _, rfl, ite2 (fun y3 => ?_) (fun y3 => ?_)⟩
      rotate_left
      · refine ⟨_, rfl, k H8 _ (G8.mono (by omega)) fun H'' kp => ?_⟩
        refine kt_tup (kp.2 _ _ sq4) (ews_app (ews_app (ews_cut (ews _) _ _) (ews_one (in1 g48 kp))) (ews_cut (ews _) _ _)) ?_
        have := cl none (some at_)
        have := cl (some (at_ + 1)) none
        rw [List.length_append, List.length_append]
        show _ + 1 + _ ≤ 100
        omega
      · -- another odd place
        have len4 : ((cutV xs none (some at_) ++ [x]) ++ cutV xs (some (at_ + 1)) none).length ≤ 19 := by
          have := cl none (some at_)
          have := cl (some (at_ + 1)) none
          rw [List.length_append, List.length_append]
          show _ + 1 + _ ≤ 19
          omega
        have ew4 : ∀ {Ha Hb : Hp} {k : Nat}, Go K p c H4 k Ha → Kp K H Ha Hb → EwS K Hb ((cutV xs none (some at_) ++ [x]) ++ cutV xs (some (at_ + 1)) none) := fun g kp => ews_app (ews_app (ews_cut (ews _) _ _) (ews_one (in1 g kp))) (ews_cut (ews _) _ _)
        have T8 := same_seqT (S6.trans (S7.trans S8)) (tk5 _ _ (same_seqT S3 T2))
        generalize (cutV xs none (some at_) ++ [x]) ++ cutV xs (some (at_ + 1)) none = ys at *
        have cl2 := cut_len ys
        refine ⟨_, rfl, p, c, _, _, rfl, G8.pen, G8.cel, by omega, by decide, by decide, fun H9 at2 g9 b0 b1 => ?_⟩
        obtain ⟨v2, hv2, ev2⟩ := atI_lt (xs := xs) b0 (by omega)
        obtain ⟨i2, rfl, j0, j1⟩ := isI v2 hv2
        have G9 := G8.trans g9
        have T9 := seqT_go T8 G8.pen g9.but
        have sq9 := seqT_go sq4 G8.pen g9.but
        refine ⟨_, rfl, _, rfl, _, rfl, q4, _, rfl, sq9, fun r1 Ha Sa sqa => ?_⟩
        have Ga := G9.same Sa
        refine ⟨_, rfl, _, rfl, _, rfl, t, _, _, _, rfl, rfl, same_seqT Sa T9, ev2, p, c, _, i2, rfl, Ga.pen, Ga.cel, by omega, j0, j1, fun Hb x2 gb clo2 => ⟨(by show 1 ≤ sizeLine; decide), fun u2 hu2 => ?_⟩⟩
        generalize hX : upd Hb u2 _ = Hc
        obtain ⟨Sc, fc⟩ := alloc hu2 hX
        clear hX
        have tkc : ∀ a ys, SqT K Ha a ys → SqT K Hc a ys := fun a ys q => same_seqT Sc (seqT_go q Ga.pen gb.but)
        refine ⟨r1, u2, _, _, rfl, rfl, tkc _ _ sqa, SqT.of fc, sz _ (by have := cl2 none (some at2); show _ + 1 ≤ 200; omega), fun r2 Hd Sd sqd => ?_⟩
        refine ⟨_, rfl, _, rfl, _, _, rfl, rfl, _, rfl, q4, _, rfl, same_seqT Sd (tkc _ _ (same_seqT Sa sq9)), fun r3 He Se sqe => ?_⟩
        refine ⟨r2, r3, _, _, rfl, rfl, same_seqT Se sqd, sqe, sz _ (by have := cl2 none (some at2); have := cl2 (some (at2 + 1)) none; rw [List.length_append]; show _ + 1 + _ ≤ 200; omega), fun r4 Hf Sf sqf => ?_⟩
        have Sbf := Sc.trans (Sd.trans (Se.trans Sf))
        refine ⟨_, rfl, k Hf _ (((Ga.trans gb).same Sbf).mono (by omega)) fun H'' kp => ?_⟩
        have e4 : EwS K H'' ys := ew4 (((((g48.trans g9).same Sa).trans gb).same Sbf)) kp
        refine kt_tup (kp.2 _ _ sqf) (ews_app (ews_app (ews_cut e4 _ _) (ews_one (clo2 _ (Kp.inner Ga gb (gb.self.same Sbf) kp)))) (ews_cut e4 _ _)) ?_
        have := cl2 none (some at2)
        have := cl2 (some (at2 + 1)) none
        rw [List.length_append, List.length_append]
        show _ + 1 + _ ≤ 100
        omega
    refine ⟨_, rfl, rfl, _, rfl, ite2 (fun y1 => ?_) (fun y1 => ?_)⟩
    · -- one place fewer
      refine ⟨_, rfl, _, rfl, _, rfl, t, _, rfl, T2, fun q1 H3 S3 sq1 => ?_⟩
      refine ⟨_, rfl, _, rfl, _, _, rfl, rfl, _, rfl, t, _, rfl, same_seqT S3 T2, fun q3 H7 S7 sq3 => ?_⟩
      refine ⟨q1, q3, _, _, rfl, rfl, same_seqT S7 sq1, sq3, sz _ (by have := cl none (some at_); have := cl (some (at_ + 1)) none; omega), fun q4 H8 S8 sq4 => ?_⟩
      refine k H8 _ ((gg.same (S3.trans (S7.trans S8))).mono (by omega)) fun H'' kp => ?_
      refine kt_tup (kp.2 _ _ sq4) (ews_app (ews_cut (ews _) _ _) (ews_cut (ews _) _ _)) ?_
      have := cl none (some at_)
      have := cl (some (at_ + 1)) none
      rw [List.length_append]
      omega
    refine ⟨_, rfl, rfl, _, rfl, ite2 (fun y1 => ?_) (fun y1 => ?_)⟩
    · -- one place more
      refine ⟨_, rfl, _, rfl, _, rfl, t, _, rfl, T2, fun q1 H3 S3 sq1 => ?_⟩
      refine ⟨_, rfl, _, rfl, t, _, _, _, rfl, rfl, same_seqT S3 T2, ev, (by show 1 ≤ sizeLine; decide), fun u hu => ?_⟩
      generalize hX : upd H3 u _ = H5
      obtain ⟨S5, f5⟩ := alloc hu hX
      clear hX
      refine ⟨q1, u, _, _, rfl, rfl, same_seqT S5 sq1, SqT.of f5, sz _ (by have := cl none (some at_); show _ + 1 ≤ 200; omega), fun q2 H6 S6 sq2 => ?_⟩
      refine ⟨_, rfl, _, rfl, _, rfl, t, _, rfl, same_seqT (S3.trans (S5.trans S6)) T2, fun q3 H7 S7 sq3 => ?_⟩
      refine ⟨q2, q3, _, _, rfl, rfl, same_seqT S7 sq2, sq3, sz _ (by have := cl none (some at_); have := cl (some at_) none; rw [List.length_append]; show _ + 1 + _ ≤ 200; omega), fun q4 H8 S8 sq4 => ?_⟩
      refine k H8 _ ((gg.same (S3.trans (S5.trans (S6.trans (S7.trans S8))))).mono (by omega)) fun H'' kp => ?_
      refine kt_tup (kp.2 _ _ sq4) (ews_app (ews_app (ews_cut (ews _) _ _) (ews_one ⟨_, .int (Nat.lt_of_le_of_lt (show i.natAbs ≤ 1000 by omega) (by decide +kernel))⟩)) (ews_cut (ews _) _ _)) ?_
      have := cl none (some at_)
      have := cl (some at_) none
      rw [List.length_append, List.length_append]
      show _ + 1 + _ ≤ 100
      omega
    refine ⟨_, rfl, rfl, _, rfl, ite2 (fun y1 => ?_) (fun y1 => ?_)⟩
    · -- turned about
      refine ⟨_, rfl, t, _, rfl, T2, fun q1 hq1 => ?_⟩
      generalize hX : upd H2 q1 _ = H3
      obtain ⟨S3, f3⟩ := alloc hq1 hX
      clear hX
      refine k H3 _ ((gg.same S3).mono (by omega)) fun H'' kp => ?_
      refine kt_tup (kp.2 _ _ (SqT.of f3)) (fun x hx => ews _ x (List.mem_reverse.mp hx)) ?_
      rw [List.length_reverse]
      omega
    · -- something else
      refine ⟨_, rfl, t, _, rfl, .inr T2, fun u1 hu1 => ?_⟩
      generalize hX : upd H2 u1 _ = H3
      obtain ⟨S3, f3⟩ := alloc hu1 hX
      clear hX
      intro u2 hu2
      generalize hX : upd H3 u2 _ = H4
      obtain ⟨S4, f4⟩ := alloc hu2 hX
      clear hX
      refine ⟨(by show 0 ≤ sizeLine; decide), fun u3 hu3 => ?_⟩
      generalize hX : upd H4 u3 _ = H5
      obtain ⟨S5, f5⟩ := alloc hu3 hX
      clear hX
      refine ⟨_, rfl, (by show 1 ≤ sizeLine; decide), fun u4 hu4 => ?_⟩
      generalize hX : upd H5 u4 _ = H6
      obtain ⟨S6, f6⟩ := alloc hu4 hX
      clear hX
      refine ⟨_, rfl, (by show 1 ≤ sizeLine; decide), fun u5 hu5 ns5 => ?_⟩
      generalize hX : upd H6 u5 _ = H7
      obtain ⟨S7, f7⟩ := alloc hu5 hX
      clear hX
      have T7 := same_seqT (S3.trans (S4.trans (S5.trans (S6.trans S7)))) T2
      refine ⟨_, rfl, t, _, rfl, T7, fun u6 hu6 => ?_⟩
      generalize hX : upd H7 u6 _ = H8
      obtain ⟨S8, f8⟩ := alloc hu6 hX
      clear hX
      have T8 := same_seqT S8 T7
      refine ⟨_, rfl, t, 2, _, rfl, rfl, T8, (fun z => by rw [z] at lx; cases lx), by decide, by decide, by omega, fun q H9 S9 sq9 => ?_⟩
      refine ⟨(by show 11 ≤ sizeLine; decide), fun l1 hl1 => ?_⟩
      generalize hX : upd H9 l1 _ = H10
      obtain ⟨Sa, fa⟩ := alloc hl1 hX
      clear hX
      have U3 := S3
      have U4 := U3.trans S4
      have U5 := U4.trans S5
      have U6 := U5.trans S6
      have U7 := U6.trans S7
      have U9 := U7.trans (S8.trans S9)
      have ga := gg.same (U9.trans Sa)
      have nl := Ne.symm ((gg.same U9).ne_new hl1)
      refine ⟨_, rfl, _, rfl, p, c, _, _, rfl, ga.pen, ga.cel, by omega, by decide, by decide, fun Hb r gb b0 b1 => ?_⟩
      obtain ⟨x, hx, ex⟩ := atI_lt b0 (show r < (([V.ref u1, V.non, V.bl true, V.int 9, V.str (Str.ofString "123456789"), V.ref u2, V.ref u3, V.ref u4, V.ref u5, V.ref u6, V.ref q] : List V).length : Int) from b1)
      refine ⟨l1, _, _, _, rfl, rfl, gb.but.seqL nl (SqL.of fa), ex, ?_⟩
      refine k Hb x ((ga.trans gb).mono (by omega)) fun H'' kp => ?_
      have V9 := S9.trans Sa
      have V8 := S8.trans V9
      have V7 := S7.trans V8
      have V6 := S6.trans V7
      have V5 := S5.trans V6
      have V4 := S4.trans V5
      have k1 : ∀ {u : Addr} {o : HO} {Ha Hc : Hp}, Same H2 Ha → Ha u = none → Same Hc H10 → Hc u = some o → H'' u = some o := fun {u o Ha Hc} s n s2 e =>
        kp.1 _ _ ((gg.same s).free n) (gb.but _ _ (Ne.symm ((gg.same s).ne_new n)) (s2 _ _ e))
      have w1 := k1 (Same.refl _) hu1 V4 f3
      have w2 := k1 U3 hu2 V5 f4
      have w3 := k1 U4 hu3 V6 f5
      have w4 := k1 U5 hu4 V7 f6
      have w5 := k1 U6 hu5 V8 f7
      have w6 := k1 U7 hu6 V9 f8
      have tab : SqT K H'' t xs := kp.2 _ _ (seqT_go (same_seqT V8 T7) ga.pen gb.but)
      have sq'' : SqT K H'' q _ := kp.2 _ _ (seqT_go (same_seqT Sa sq9) ga.pen gb.but)
      obtain ⟨ds, e1, e2, e3⟩ := ews_out (ews H'')
      have rt : RepD (.tuple ds) 3 549 := (RepD.tuple e2).mono (Nat.le_refl _) (by rw [e3, lx]; decide)
      have rt1 : ∀ d ∈ [PyData.tuple ds], RepD d 3 549 := fun d hd => by
        rw [List.mem_singleton.mp hd]
        exact rt
      have tg1 : TgAll K H'' [V.ref t] [PyData.tuple ds] := .cons (.tup tab e1) .nil
      have other : ∀ {ty : Value} {d : PyData}, (∀ H', Same H'' H' → TyX K H' x ty) → PySem.W.kitOne K ty (.type "tuple") = some false → Tz K H'' x d → Kt K H'' x := fun h1 h2 h3 => ⟨false, _, .inr ⟨_, h1, h2, rfl⟩, h3⟩
      clear ex
      simp only [List.mem_cons, List.not_mem_nil, or_false] at hx
      rcases hx with z | z | z | z | z | z | z | z | z | z | z <;> subst z
      · obtain ⟨ns, en, rn, ln⟩ := xtb
        refine other (ty := .type "list") (fun H' s' => .base (.lst (s' _ _ w1))) (kit_ty (by decide +kernel)) (.dp (.lst (SqL.of w1) (by rw [en]; exact dpAll_ints ns)) (ints_rep (k := 9) (fun n hn => ?_) (by omega)) (by decide) (by decide))
        have := rn n hn
        exact Nat.lt_of_le_of_lt (show n.natAbs ≤ 1000 by omega) (by decide +kernel)
      · exact other (fun H' s' => .base .non) (kit_ty (by decide +kernel)) (.dp .non RepOk.none (by decide) (by decide))
      · exact other (fun H' s' => .base (.bl true)) (kit_ty (by show kitB "bool" "tuple" = some false; decide +kernel)) (.dp (.bl true) (RepOk.bool true) (by decide) (by decide))
      · exact other (fun H' s' => .base (.int 9)) (kit_ty (by show kitB "int" "tuple" = some false; decide +kernel)) (.dp (.int 9) (RepOk.int (by decide +kernel)) (by decide) (by decide))
      · exact other (fun H' s' => .base (.str _)) (kit_ty (by show kitB "str" "tuple" = some false; decide +kernel)) (.dp (.str _) (RepOk.tok (k := 9) ⟨by decide +kernel, by decide +kernel⟩) (by decide) (by decide))
      · exact other (ty := .type "dict") (fun H' s' => .base (.dK (s' _ _ w2))) (kit_ty (by decide +kernel)) (.tg (.dct w2 .nil) RepD.d0 (by decide) (by decide))
      · exact kt_tup (SqT.of w3) (fun _ z => nomatch z) (by decide)
      · exact ⟨_, _, .inl ⟨u4, [.ref t], rfl, SqT.of w4, fun y hy H' s' => by rw [List.mem_singleton.mp hy]; exact .tup (seqT_ty (same_seqT s' tab)), rfl⟩, .tg (.tup (SqT.of w4) tg1) (RepD.tuple rt1) (by decide) (by show 1 * 550 ≤ 40000; decide)⟩
      · exact other (ty := .type "list") (fun H' s' => .base (.lst (s' _ _ w5))) (kit_ty (by decide +kernel)) (.tg (.lst (SqL.of w5) ns5 tg1) (RepD.list rt1) (by decide) (by show 1 * 550 ≤ 40000; decide))
      · have gd := gd_merge (numbered 0 xs) [] (gd_num xs 0 isI (by omega)) (fun _ z => nomatch z)
        obtain ⟨es, a1, a2, a3⟩ := gd_out (K := K) (H := H'') gd
        have l1 := length_mergeK (numbered 0 xs) []
        rw [numbered_len] at l1
        refine other (ty := .type "dict") (fun H' s' => .base (.dK (s' _ _ w6))) (kit_ty (by decide +kernel)) (.tg (.dct w6 a1) (RepD.dct (k := 0) (m := 0) (n := 0) a3) (by decide) ?_)
        have l2 : (mergeK [] (numbered 0 xs)).length ≤ 0 + xs.length := l1
        have : es.length * (0 + 0 + 2) ≤ 9 * 2 := Nat.mul_le_mul_right _ (by omega)
        omega
      · refine kt_tup sq'' (fun y hy => ?_) ?_
        · obtain ⟨l, h1, h2⟩ := List.mem_flatten.mp hy
          rw [(List.mem_replicate.mp h1).2] at h2
          exact ews _ y h2
        · show ((List.replicate 2 xs).flatten).length ≤ 100
          show (xs ++ (xs ++ [])).length ≤ 100
          rw [List.length_append, List.length_append]
          show _ + (_ + 0) ≤ 100
          omega
def spLaw (K : PySem.W.Frag) : Sp := fun vs H Q _ => ∃ (a : Addr) (ns : List Int), vs = [.ref a] ∧ SqL K H a (ns.map V.int) ∧ ns.length ≤ 63 ∧ ∀ H', Q (.bl true) H'
theorem law_in (K : PySem.W.Frag) (H : Hp) (a : Addr) (ns : List Int) (h1 : ns.length ≤ 63) (_ : ∀ k ∈ ns, Builtin.Int.intBits k ≤ 1048576) (_ : Only H) (h2 : SqL K H a (ns.map V.int)) : spLaw K [.ref a] H (fun v _ => v = .bl true) fun _ _ _ => False :=
  ⟨a, ns, rfl, h2, h1, fun _ => rfl⟩
theorem seqT_keep2 {K : PySem.W.Frag} {H H1 : Hp} {p D a : Addr} {xs ys zs : List V} (f : ∀ b o, b ≠ p → b ≠ D → H b = some o → H1 b = some o) (hp : H p = some (.lst ys)) (hD : H D = some (.lst zs)) (h : SqT K H a xs) : SqT K H1 a xs := by
  rcases h with (h | ⟨o, h⟩) | h
  · exact .inl (.inl (f _ _ (ne_of h hp (by intro z; cases z)) (ne_of h hD (by intro z; cases z)) h))
  · exact .inl (.inr ⟨o, f _ _ (ne_of h hp (by intro z; cases z)) (ne_of h hD (by intro z; cases z)) h⟩)
  · exact .inr h
theorem Tis.same {K : PySem.W.Frag} {H H1 : Hp} {v : V} {b : Bool} (h : Tis K H v b) (s : Same H H1) : Tis K H1 v b := by
  rcases h with ⟨a, xs, e, sq, an, eb⟩ | ⟨ty, h1, h2, h3⟩
  · exact .inl ⟨a, xs, e, same_seqT s sq, fun x hx H' s' => an x hx H' (s.trans s'), eb⟩
  · exact .inr ⟨ty, fun H' s' => h1 H' (s.trans s'), h2, h3⟩
theorem Tz.same {K : PySem.W.Frag} {H H1 : Hp} {v : V} {d : PyData} (h : Tz K H v d) (s : Same H H1) : Tz K H1 v d := by
  cases h with
  | dp h1 h2 h3 h4 => exact .dp (dp_same s d v h1) h2 h3 h4
  | tg h1 h2 h3 h4 => exact .tg (tg_keep (.of_same s) d _ h1) h2 h3 h4
theorem tis_sp {K : PySem.W.Frag} {H : Hp} {v : V} {b : Bool} {Q : VK} {E : XK} (h : Tis K H v b) (q : ∀ H', Same H H' → Q (.bl b) H') : spTableV K [v] H Q E := by
  rcases h with ⟨a, xs, e, sq, an, eb⟩ | ⟨ty, h1, h2, h3⟩
  · subst eb
    exact ⟨v, rfl, .inl ⟨a, xs, e, sq, an, q⟩⟩
  · subst h3
    exact ⟨v, rfl, .inr ⟨ty, h1 H (Same.refl _), h2, q H (Same.refl _)⟩⟩
theorem ok_law (T : Txt w K mg) : GOk P w K mg base CX0 6 T.a_law T.d_law ["_law_script"] (spLaw K) := by
  have G_pen := ok_pen (P := P) (base := base) T
  have G_table := ok_table (P := P) (base := base) T
  have G_bent := ok_bent (P := P) (base := base) T
  have G_is_table := ok_is_table (P := P) (base := base) T
  have G_law_is_table := ok_law_is_table (P := P) (base := base) T
  refine GOk.body T.F_law sc_law (fun vs H Q E h => ?_) (fun cdv A outer s H vs Q E hr hG h => ?_)
  · obtain ⟨a, ns, rfl, _⟩ := h
    rfl
  · obtain ⟨a, ns, rfl, hS, hl, k⟩ := h
    have hr_pen := hr.mono (show 1 ≤ 5 by decide)
    have hr_table := hr.mono (show 2 ≤ 5 by decide)
    have hr_is_table := hr_table
    have hr_law_is_table := hr_table
    have hr_bent := hr.mono (show 3 ≤ 5 by decide)
    refine ⟨_, (pss_cons (ps_set (i := 1) sc_law.nd rfl (by first | exact Or.inl rfl | exact Or.inr rfl) (pe_call G_pen hr_pen (by rfl) T.g_pen T.F_pen.kp T.b_pen .nil pass0 (pa_cons (pv 0) pa_nil)))
  (pss_cons (ps_set (i := 2) sc_law.nd rfl (by first | exact Or.inl rfl | exact Or.inr rfl) (pe_lst pa_nil))
  (pss_cons (ps_for PassesOwn.never rfl (pi_range1 (by rfl) T.z_range (pa_cons pe_int pa_nil)) (pg_name (i := 3) sc_law.nd rfl (by first | exact Or.inl rfl | exact Or.inr rfl)) (pss_cons (ps_set (i := 4) sc_law.nd rfl (by first | exact Or.inl rfl | exact Or.inr rfl) (pe_call G_table hr_table (by rfl) T.g_table T.F_table.kp T.b_table .nil pass0 (pa_cons (pv 1) pa_nil)))
  (pss_one (ps_set (i := 2) sc_law.nd rfl (by first | exact Or.inl rfl | exact Or.inr rfl) (pe_op op_cat (pe_op op_cat (pv 2) (pe_lst (pa_cons (pv 4) pa_nil))) (pe_lc (own := [("_law_k", 8)]) rfl sc_law.nd (pi_range1 (by rfl) T.z_range (pa_cons pe_int pa_nil)) (blkOk_by (own := [("_law_k", 8)]) (N := ["_law_script", "_law_pen_here", "_law_things", "_law_turn", "_law_table_here", "_law_what_is", "_law_kept", "_law_found", "_law_k"]) (sc := defScope s_law) (by decide +kernel)) (fun _ _ _ _ _ => (pg_name (i := 8) sc_law.nd rfl (by first | exact Or.inl rfl | exact Or.inr rfl))) (fun _ _ _ _ _ => pts_nil) (fun _ _ _ _ _ => (pe_call G_bent hr_bent (by rfl) T.g_bent T.F_bent.kp T.b_bent .nil pass0 (pa_cons (pv 1) (pa_cons (pv 4) pa_nil))))))))))
  (pss_cons (ps_for PassesOwn.never rfl (k_piL K (pe_op op_cat (pv 2) (pe_revL (pv 2)))) (pg_name (i := 5) sc_law.nd rfl (by first | exact Or.inl rfl | exact Or.inr rfl)) (pss_cons (ps_set (i := 6) sc_law.nd rfl (by first | exact Or.inl rfl | exact Or.inr rfl) (pe_callB (k_repr6 K hG hr.units) (by rfl) T.z_repr (by decide +kernel) (pa_cons (pv 5) pa_nil)))
  (pss_one (ps_for PassesOwn.never rfl (k_piL K (pe_lst (pa_cons (pe_call G_is_table hr_is_table (by rfl) T.g_is_table T.F_is_table.kp T.b_is_table .nil pass0 (pa_cons (pv 5) pa_nil)) (pa_cons (pe_callK0 G_is_table hr_is_table (by rfl) T.g_is_table T.F_is_table.kp T.kb0_is_table pass0 (pk_cons (pv 5) pk_nil)) pa_nil)))) (pg_name (i := 7) sc_law.nd rfl (by first | exact Or.inl rfl | exact Or.inr rfl)) (pss_one (ps_if (PW.pt (pw_or (pt_not (pt_val (pe_callB (k_isi K) (by rfl) T.z_isinstance (by decide +kernel) (pa_cons (pv 7) (pa_cons (pe_bltn (v := .ty "bool") (by rfl) T.z_bool (by decide +kernel) rfl) pa_nil))))) (pw_or (pt_cmpR op_ne (pv 7) (pe_call G_law_is_table hr_law_is_table (by rfl) T.g_law_is_table T.F_law_is_table.kp T.b_law_is_table .nil pass0 (pa_cons (pv 5) pa_nil)) (nomark _)) (pw_or1 (pt_cmpR op_ne (pe_callB (k_repr6 K hG hr.units) (by rfl) T.z_repr (by decide +kernel) (pa_cons (pv 5) pa_nil)) (pv 6) (nomark _)))))) (pss_one (ps_ret pe_bl)) pss_nil))))))
  (pss_one (ps_ret pe_bl)))))), ?_⟩
    refine ⟨_, rfl, a, ns, rfl, hS, hl, fun H1 p c S1 hp hc => ?_⟩
    have g1 := Go.refl hp hc
    refine ⟨(by show 0 ≤ sizeLine; decide), fun l0 hl0 => ?_⟩
    generalize hX : upd H1 l0 _ = H2
    obtain ⟨S2, f2⟩ := alloc hl0 hX
    clear hX
    have g2 := (g1.same S2).self
    refine ⟨6, rfl, by decide, by decide, ?_⟩
    refine for_it walk_range (fun i σ H' => ∃ (l : Addr) (vs : List V) (x3 x4 x5 x6 x7 x8 : Option V), σ = [some (.ref a), some (.ref p), some (.ref l), x3, x4, x5, x6, x7, x8] ∧ Go K p c H2 (100 * i) H' ∧ H' l = some (.lst vs) ∧ vs.length = 6 * i ∧ ∀ v ∈ vs, ∀ H'', But p H' H'' → Kt K H'' v)
      ⟨l0, [], none, none, none, none, none, none, rfl, g2, f2, rfl, fun _ z => nomatch z⟩ (fun _ _ _ _ _ => trivial) ?_ ?_
    · rintro i x σ _ H6 hi ⟨l, vs, x3, x4, x5, x6, x7, x8, rfl, g6, e6, lv, ov⟩ ⟨rfl, rfl⟩
      have hi : i < 6 := hi
      refine ⟨_, rfl, p, c, _, rfl, g6.pen, g6.cel, by omega, fun H7 q tb g7 hq hT => ?_⟩
      have G7 := g6.trans g7
      have nlp : l ≠ p := fun z => by
        obtain ⟨_, _, e, _⟩ := id g6.pen
        rw [z, e] at e6
        have q := Option.some.inj e6
        injection q with q
        have := congrArg List.length q
        rw [lv] at this
        have : (3 : Nat) = 6 * i := this
        omega
      have e7 := g7.but _ _ nlp e6
      have hT7 := hT
      refine ⟨_, rfl, _, rfl, (by show 1 ≤ sizeLine; decide), fun u hu => ?_⟩
      generalize hX : upd H7 u _ = H8
      obtain ⟨S8, f8⟩ := alloc hu hX
      clear hX
      refine ⟨l, u, _, _, rfl, rfl, S8 _ _ e7, f8, Nat.le_trans (show vs.length + 1 ≤ 1000 by omega) (by decide), fun m hm => ?_⟩
      generalize hX : upd H8 m _ = H9
      obtain ⟨S9, f9⟩ := alloc hm hX
      clear hX
      have S79 := S8.trans S9
      have g9 := G7.same S79
      have hT9 := hT.same S79
      have cel9 := g9.cel
      refine ⟨5, rfl, by decide, by decide, fun D hD => ?_⟩
      have nD := Ne.symm (g9.ne_new hD)
      refine lc_it walk_range (fun j H' => Go K p c H9 (100 * i + 40 + 6 * j) H' ∧ ∃ ws : List V, H' D = some (.lst ws) ∧ ws.length = j ∧ ∀ v ∈ ws, ∀ H'', (∀ b o, b ≠ p → b ≠ D → H' b = some o → H'' b = some o) → Kt K H'' v)
        ⟨(g9.self.mono (by omega)).new hD, [], upd_same, rfl, fun x hx => nomatch hx⟩ (fun _ _ _ _ => trivial) ?_ ?_
      · rintro j x _ Ha hj ⟨ga, ws, ea, lw, ow⟩ ⟨rfl, rfl⟩
        have hj : j < 5 := hj
        refine ⟨rfl, _, rfl, _, rfl, p, c, q, _, tb, rfl, ga.pen, ga.cel, by omega, hT9.go g9.pen ga.but, fun Hb v gb stay => ?_⟩
        have eb := gb.but _ _ nD ea
        obtain ⟨_, _, pa, _⟩ := id ga.pen
        obtain ⟨_, _, pb, _⟩ := id gb.pen
        refine ⟨_, eb, small1000 (by omega), ((ga.trans gb).own hD nD cel9).mono (by omega), ws ++ [v], upd_same, by rw [List.length_append, lw]; rfl, fun y hy H'' keep => ?_⟩
        have keep2 : ∀ b o, b ≠ p → b ≠ D → Hb b = some o → H'' b = some o := fun b o h1 h2 h3 => keep b o h1 h2 ((upd_ne h2).trans h3)
        rcases List.mem_append.mp hy with z | z
        · exact ow y z H'' fun b o h1 h2 h3 => keep2 b o h1 h2 (gb.but b o h1 h3)
        · rw [List.mem_singleton.mp z]
          exact stay H'' ⟨fun b o h1 h2 => keep2 b o (fun e => by rw [e, pa] at h1; cases h1) (fun e => by rw [e, ea] at h1; cases h1) h2, fun a xs q => seqT_keep2 keep2 pb eb q⟩
      rintro Hc ⟨gc, ws, ec, lw, ow⟩
      have lw : ws.length = 5 := lw
      have nmp : m ≠ p := Ne.symm ((G7.same S8).ne_new hm)
      have fc := gc.but _ _ nmp f9
      refine ⟨m, D, _, _, rfl, rfl, fc, ec, Nat.le_trans (show (vs ++ [V.ref q]).length + ws.length ≤ 1000 by rw [List.length_append, lv, lw]; show 6 * i + 1 + 5 ≤ 1000; omega) (by decide), fun r hr0 => ?_⟩
      generalize hX : upd Hc r _ = Hd
      obtain ⟨Sd, fd⟩ := alloc hr0 hX
      clear hX
      have G9d : Go K p c H7 (100 * i + 100) Hd := ((((g7.self.same S79).mono (show _ ≤ 100 * i + 40 by omega)).trans gc).same Sd).mono (by omega)
      refine ⟨r, _, _, _, _, _, _, _, rfl, ((g6.trans g7).trans G9d).mono (by omega), fd, by rw [List.length_append, List.length_append, lv, lw]; show 6 * i + 1 + 5 = _; omega, fun v hv H'' b => ?_⟩
      rcases List.mem_append.mp hv with hv | hv
      · rcases List.mem_append.mp hv with hv | hv
        · exact ov v hv H'' ((g7.trans G9d).but.trans b)
        · rw [List.mem_singleton.mp hv]
          obtain ⟨_, _, e, _⟩ := id g7.pen
          obtain ⟨sq, l9, rng⟩ := hT.lst e (G9d.but.trans b)
          exact kt_tup sq (ews_tab rng) (by rw [List.length_map]; omega)
      · exact ow v hv H'' fun b2 o h1 h2 h3 => b b2 o h1 (Sd _ _ h3)
    · rintro σ H6 ⟨l, vs, x3, x4, x5, x6, x7, x8, rfl, g6, e6, lv, ov⟩
      have lv : vs.length = 36 := lv
      refine ⟨_, rfl, _, rfl, l, _, rfl, SqL.of e6, fun m hm => ?_⟩
      generalize hX : upd H6 m _ = H7
      obtain ⟨S7, f7⟩ := alloc hm hX
      clear hX
      refine ⟨l, m, _, _, rfl, rfl, S7 _ _ e6, f7, Nat.le_trans (show vs.length + vs.reverse.length ≤ 1000 by rw [List.length_reverse]; omega) (by decide), fun D hD => ?_⟩
      generalize hX : upd H7 D _ = H8
      obtain ⟨S8, f8⟩ := alloc hD hX
      clear hX
      have ok : ∀ v ∈ vs ++ vs.reverse, Kt K H8 v := fun v hv => by
        have hv : v ∈ vs := by
          rcases List.mem_append.mp hv with z | z
          · exact z
          · exact List.mem_reverse.mp z
        exact ov v hv H8 (But.of_same (S7.trans S8))
      have lw : (vs ++ vs.reverse).length < 1000 := by rw [List.length_append, List.length_reverse]; omega
      generalize vs ++ vs.reverse = ws at *
      have say : ∀ d : Str, (!decide (V.str d = V.str d)) = false := fun d => by rw [decide_eq_true rfl]; rfl
      refine ⟨D, rfl, ⟨_, SqL.of f8⟩, ?_⟩
      refine for_it (walk_list (xs := ws)) (fun j σ H' => ∃ (x5 x6 x7 : Option V), σ = [some (.ref a), some (.ref p), some (.ref l), x3, x4, x5, x6, x7, x8] ∧ Same H8 H')
        ⟨x5, x6, x7, rfl, Same.refl _⟩ (fun j σ H' _ ⟨_, _, _, _, s⟩ => SqL.of (s _ _ f8)) ?_ ?_
      · rintro j x σ _ H9 hj ⟨y5, y6, y7, rfl, s9⟩ ⟨rfl, hx⟩
        obtain ⟨b, d, th, te⟩ := ok x (List.mem_of_getElem? hx)
        have th := th.same s9
        have te := te.same s9
        refine ⟨_, rfl, x, d, rfl, te, ?_⟩
        refine ⟨_, rfl, ?_⟩
        refine (show ∀ {σ : L2.St} {H : Hp} {Q : List V → Hp → Prop}, Q [] H → tNil σ H Q from fun q => q) ?_
        show spTableV K [x] H9 _ _
        refine tis_sp th fun Ha Sa => ?_
        refine ⟨_, rfl, ?_⟩
        refine (show ∀ {σ : L2.St} {H : Hp} {Q : List V → Hp → Prop}, Q [] H → tNil σ H Q from fun q => q) ?_
        show spTableV K [x] Ha _ _
        refine tis_sp (th.same Sa) fun Hb Sb => ?_
        refine ⟨(by show 2 ≤ sizeLine; decide), fun u hu => ?_⟩
        generalize hX : upd Hb u _ = Hc
        obtain ⟨Sc, fc⟩ := alloc hu hX
        clear hX
        have s9c := Sa.trans (Sb.trans Sc)
        refine ⟨u, rfl, ⟨_, SqL.of fc⟩, ?_⟩
        refine for_it (walk_list (xs := [V.bl b, V.bl b])) (fun k σ H' => ∃ (x7 : Option V), σ = [some (.ref a), some (.ref p), some (.ref l), x3, x4, some x, some (.str d.shown), x7, x8] ∧ Same Hc H')
          ⟨y7, rfl, Same.refl _⟩ (fun j σ H' _ ⟨_, _, s⟩ => SqL.of (s _ _ fc)) ?_ ?_
        · rintro k2 y σ _ Hd hk ⟨z7, rfl, sd⟩ ⟨rfl, hy⟩
          obtain rfl : y = V.bl b := by
            have := List.mem_of_getElem? hy
            simpa using this
          have thd := th.same (s9c.trans sd)
          have ted := te.same (s9c.trans sd)
          obtain ⟨ty, t1, _, t3, _⟩ := (Any.bl (K := K) (H := Hd) b).ty
          refine ⟨_, rfl, _, _, _, _, true, rfl, ClsV.ty "bool", t1, t3, _, rfl, ?_⟩
          show if false = true then _ else _
          refine iteF ?_
          refine ⟨_, rfl, _, rfl, ?_⟩
          refine (show ∀ {σ : L2.St} {H : Hp} {Q : List V → Hp → Prop}, Q [] H → tNil σ H Q from fun q => q) ?_
          show spTableV K [x] Hd _ _
          refine tis_sp thd fun He Se => ?_
          refine ⟨rfl, _, rfl, ?_⟩
          have sayb : (!decide (V.bl b = V.bl b)) = false := by rw [decide_eq_true rfl]; rfl
          rw [sayb]
          refine iteF ?_
          refine ⟨_, rfl, x, d, rfl, ted.same Se, _, rfl, rfl, _, rfl, ?_⟩
          rw [say]
          refine iteF ?_
          exact ⟨_, rfl, sd.trans Se⟩
        · rintro σ Hd ⟨z7, rfl, sd⟩
          exact ⟨_, _, _, rfl, s9.trans (s9c.trans sd)⟩
      · rintro σ Hd ⟨y5, y6, y7, rfl, sd⟩
        exact k _
end
theorem all_mk {l : PySem.W.OpenLaw} {w : World} {K : PySem.W.Frag} {h : Heap} {mg : Str → Option Value} {fa : Addr} (X : K.In h) (G : h.Ns mainGlobals mg) (hfa : mg "law" = some (.ref fa))
    {f0 : Addr} {od0 an0 : Option Addr} {sl0 : Array (Option Value)} {oc0 kV0 dc0 pm0 cd0 ct0 : Value} (a0 : PySem.W.nsIn K mainGlobals "is_whole" = some (some (.ref f0))) (l0 : K.lookup f0 = some ⟨oc0, od0, .func (PySem.W.fnOf "is_whole" "is_whole" (defArgs s_is_whole) (defBody s_is_whole) (defScope s_is_whole) .none kV0 dc0 pm0 an0 cd0 ct0), sl0⟩) (c0 : PySem.W.codeIn K cd0 "is_whole" = true) (k0 : PySem.W.keepIn K (.ref f0) = true)
    {f1 : Addr} {od1 an1 : Option Addr} {sl1 : Array (Option Value)} {oc1 kV1 dc1 pm1 cd1 ct1 : Value} (a1 : PySem.W.nsIn K mainGlobals "is_table" = some (some (.ref f1))) (l1 : K.lookup f1 = some ⟨oc1, od1, .func (PySem.W.fnOf "is_table" "is_table" (defArgs s_is_table) (defBody s_is_table) (defScope s_is_table) .none kV1 dc1 pm1 an1 cd1 ct1), sl1⟩) (c1 : PySem.W.codeIn K cd1 "is_table" = true) (k1 : PySem.W.keepIn K (.ref f1) = true)
    {f2 : Addr} {od2 an2 : Option Addr} {sl2 : Array (Option Value)} {oc2 kV2 dc2 pm2 cd2 ct2 : Value} (a2 : PySem.W.nsIn K mainGlobals "_law_pen" = some (some (.ref f2))) (l2 : K.lookup f2 = some ⟨oc2, od2, .func (PySem.W.fnOf "_law_pen" "_law_pen" (defArgs s_pen) (defBody s_pen) (defScope s_pen) .none kV2 dc2 pm2 an2 cd2 ct2), sl2⟩) (c2 : PySem.W.codeIn K cd2 "_law_pen" = true) (k2 : PySem.W.keepIn K (.ref f2) = true)
    {f3 : Addr} {od3 an3 : Option Addr} {sl3 : Array (Option Value)} {oc3 kV3 dc3 pm3 cd3 ct3 : Value} (a3 : PySem.W.nsIn K mainGlobals "_law_take" = some (some (.ref f3))) (l3 : K.lookup f3 = some ⟨oc3, od3, .func (PySem.W.fnOf "_law_take" "_law_take" (defArgs s_take) (defBody s_take) (defScope s_take) .none kV3 dc3 pm3 an3 cd3 ct3), sl3⟩) (c3 : PySem.W.codeIn K cd3 "_law_take" = true) (k3 : PySem.W.keepIn K (.ref f3) = true)
    {f4 : Addr} {od4 an4 : Option Addr} {sl4 : Array (Option Value)} {oc4 kV4 dc4 pm4 cd4 ct4 : Value} (a4 : PySem.W.nsIn K mainGlobals "_law_table" = some (some (.ref f4))) (l4 : K.lookup f4 = some ⟨oc4, od4, .func (PySem.W.fnOf "_law_table" "_law_table" (defArgs s_table) (defBody s_table) (defScope s_table) .none kV4 dc4 pm4 an4 cd4 ct4), sl4⟩) (c4 : PySem.W.codeIn K cd4 "_law_table" = true) (k4 : PySem.W.keepIn K (.ref f4) = true)
    {f5 : Addr} {od5 an5 : Option Addr} {sl5 : Array (Option Value)} {oc5 kV5 dc5 pm5 cd5 ct5 : Value} (a5 : PySem.W.nsIn K mainGlobals "_law_whole" = some (some (.ref f5))) (l5 : K.lookup f5 = some ⟨oc5, od5, .func (PySem.W.fnOf "_law_whole" "_law_whole" (defArgs s_whole) (defBody s_whole) (defScope s_whole) .none kV5 dc5 pm5 an5 cd5 ct5), sl5⟩) (c5 : PySem.W.codeIn K cd5 "_law_whole" = true) (k5 : PySem.W.keepIn K (.ref f5) = true)
    {f6 : Addr} {od6 an6 : Option Addr} {sl6 : Array (Option Value)} {oc6 kV6 dc6 pm6 cd6 ct6 : Value} (a6 : PySem.W.nsIn K mainGlobals "_law_is_table" = some (some (.ref f6))) (l6 : K.lookup f6 = some ⟨oc6, od6, .func (PySem.W.fnOf "_law_is_table" "_law_is_table" (defArgs s_law_is_table) (defBody s_law_is_table) (defScope s_law_is_table) .none kV6 dc6 pm6 an6 cd6 ct6), sl6⟩) (c6 : PySem.W.codeIn K cd6 "_law_is_table" = true) (k6 : PySem.W.keepIn K (.ref f6) = true)
    {f7 : Addr} {od7 an7 : Option Addr} {sl7 : Array (Option Value)} {oc7 kV7 dc7 pm7 cd7 ct7 : Value} (a7 : PySem.W.nsIn K mainGlobals "_law_odd" = some (some (.ref f7))) (l7 : K.lookup f7 = some ⟨oc7, od7, .func (PySem.W.fnOf "_law_odd" "_law_odd" (defArgs s_odd) (defBody s_odd) (defScope s_odd) .none kV7 dc7 pm7 an7 cd7 ct7), sl7⟩) (c7 : PySem.W.codeIn K cd7 "_law_odd" = true) (k7 : PySem.W.keepIn K (.ref f7) = true)
    {f8 : Addr} {od8 an8 : Option Addr} {sl8 : Array (Option Value)} {oc8 kV8 dc8 pm8 cd8 ct8 : Value} (a8 : PySem.W.nsIn K mainGlobals "_law_bent" = some (some (.ref f8))) (l8 : K.lookup f8 = some ⟨oc8, od8, .func (PySem.W.fnOf "_law_bent" "_law_bent" (defArgs s_bent) (defBody s_bent) (defScope s_bent) .none kV8 dc8 pm8 an8 cd8 ct8), sl8⟩) (c8 : PySem.W.codeIn K cd8 "_law_bent" = true) (k8 : PySem.W.keepIn K (.ref f8) = true)
    {f9 : Addr} {od9 an9 : Option Addr} {sl9 : Array (Option Value)} {oc9 kV9 dc9 pm9 cd9 ct9 : Value} (a9 : PySem.W.nsIn K mainGlobals "law" = some (some (.ref f9))) (l9 : K.lookup f9 = some ⟨oc9, od9, .func (PySem.W.fnOf "law" "law" (defArgs s_law) (defBody s_law) (defScope s_law) .none kV9 dc9 pm9 an9 cd9 ct9), sl9⟩) (c9 : PySem.W.codeIn K cd9 "law" = true) (k9 : PySem.W.keepIn K (.ref f9) = true)
    (z_abs : PySem.W.nsIn K mainGlobals "abs" = some none)
    (z_all : PySem.W.nsIn K mainGlobals "all" = some none)
    (z_bool : PySem.W.nsIn K mainGlobals "bool" = some none)
    (z_dict : PySem.W.nsIn K mainGlobals "dict" = some none)
    (z_enumerate : PySem.W.nsIn K mainGlobals "enumerate" = some none)
    (z_int : PySem.W.nsIn K mainGlobals "int" = some none)
    (z_isinstance : PySem.W.nsIn K mainGlobals "isinstance" = some none)
    (z_len : PySem.W.nsIn K mainGlobals "len" = some none)
    (z_list : PySem.W.nsIn K mainGlobals "list" = some none)
    (z_range : PySem.W.nsIn K mainGlobals "range" = some none)
    (z_repr : PySem.W.nsIn K mainGlobals "repr" = some none)
    (z_str : PySem.W.nsIn K mainGlobals "str" = some none)
    (z_tuple : PySem.W.nsIn K mainGlobals "tuple" = some none)
    {t_FULL_AHEAD : Tok} (m_FULL_AHEAD : PySem.W.nsIn K mainGlobals "FULL_AHEAD" = some (some (.int (4) t_FULL_AHEAD)))
    {t_FULL_ASTERN : Tok} (m_FULL_ASTERN : PySem.W.nsIn K mainGlobals "FULL_ASTERN" = some (some (.int (-4) t_FULL_ASTERN)))
    {t_MOST_TURNS : Tok} (m_MOST_TURNS : PySem.W.nsIn K mainGlobals "MOST_TURNS" = some (some (.int (999) t_MOST_TURNS))) :
    ∃ fd : FuncData, (∀ (s : Shared) (v : Value), BindsTo s fd ⟨[v], []⟩ [("_law_script", v)]) ∧ ∀ base : Heap, K.In base → base.Ns mainGlobals mg → GOk l.prog w K mg base CX0 6 fa fd ["_law_script"] (spLaw K) := by
  have e := hfa.symm.trans (PySem.W.mg_of X G a9)
  cases e
  have F0 := fun_mk (st := s_is_whole) l0 c0 k0
  have F1 := fun_mk (st := s_is_table) l1 c1 k1
  have F2 := fun_mk (st := s_pen) l2 c2 k2
  have F3 := fun_mk (st := s_take) l3 c3 k3
  have F4 := fun_mk (st := s_table) l4 c4 k4
  have F5 := fun_mk (st := s_whole) l5 c5 k5
  have F6 := fun_mk (st := s_law_is_table) l6 c6 k6
  have F7 := fun_mk (st := s_odd) l7 c7 k7
  have F8 := fun_mk (st := s_bent) l8 c8 k8
  have F9 := fun_mk (st := s_law) l9 c9 k9
  let T : Txt w K mg := {
    a_is_whole := f0, d_is_whole := _, F_is_whole := F0, b_is_whole := F0.binds (ps := ["thing"]) (fun _ _ _ _ _ _ us hl => match us, hl with | [_], _ => rfl), g_is_whole := PySem.W.mg_of X G a0,
    a_is_table := f1, d_is_table := _, F_is_table := F1, b_is_table := F1.binds (ps := ["thing"]) (fun _ _ _ _ _ _ us hl => match us, hl with | [_], _ => rfl), g_is_table := PySem.W.mg_of X G a1,
    a_pen := f2, d_pen := _, F_pen := F2, b_pen := F2.binds (ps := ["_law_script"]) (fun _ _ _ _ _ _ us hl => match us, hl with | [_], _ => rfl), g_pen := PySem.W.mg_of X G a2,
    a_take := f3, d_take := _, F_take := F3, b_take := F3.binds (ps := ["_law_pen_here", "_law_many"]) (fun _ _ _ _ _ _ us hl => match us, hl with | [_, _], _ => rfl), g_take := PySem.W.mg_of X G a3,
    a_table := f4, d_table := _, F_table := F4, b_table := F4.binds (ps := ["_law_pen_here"]) (fun _ _ _ _ _ _ us hl => match us, hl with | [_], _ => rfl), g_table := PySem.W.mg_of X G a4,
    a_whole := f5, d_whole := _, F_whole := F5, b_whole := F5.binds (ps := ["_law_what_is"]) (fun _ _ _ _ _ _ us hl => match us, hl with | [_], _ => rfl), g_whole := PySem.W.mg_of X G a5,
    a_law_is_table := f6, d_law_is_table := _, F_law_is_table := F6, b_law_is_table := F6.binds (ps := ["_law_what_is"]) (fun _ _ _ _ _ _ us hl => match us, hl with | [_], _ => rfl), g_law_is_table := PySem.W.mg_of X G a6,
    a_odd := f7, d_odd := _, F_odd := F7, b_odd := F7.binds (ps := ["_law_pen_here", "_law_part"]) (fun _ _ _ _ _ _ us hl => match us, hl with | [_, _], _ => rfl), g_odd := PySem.W.mg_of X G a7,
    a_bent := f8, d_bent := _, F_bent := F8, b_bent := F8.binds (ps := ["_law_pen_here", "_law_table_here"]) (fun _ _ _ _ _ _ us hl => match us, hl with | [_, _], _ => rfl), g_bent := PySem.W.mg_of X G a8,
    a_law := fa, d_law := _, F_law := F9, b_law := F9.binds (ps := ["_law_script"]) (fun _ _ _ _ _ _ us hl => match us, hl with | [_], _ => rfl), g_law := PySem.W.mg_of X G a9,
    kb0_is_table := ⟨fun s us ws _ hl => (match us, ws, hl with | [], [_], _ => .of_eq rfl), fun r1 r2 => by (cases r1 with | nil => (cases r2 with | nil => exact .nil | cons q0 r2 => (cases r2 with | nil => exact .cons q0 (.nil) | cons _ _ => exact .nil)) | cons _ _ => exact .nil)⟩,
    z_abs := PySem.W.mg_none_of X G z_abs,
    z_all := PySem.W.mg_none_of X G z_all,
    z_bool := PySem.W.mg_none_of X G z_bool,
    z_dict := PySem.W.mg_none_of X G z_dict,
    z_enumerate := PySem.W.mg_none_of X G z_enumerate,
    z_int := PySem.W.mg_none_of X G z_int,
    z_isinstance := PySem.W.mg_none_of X G z_isinstance,
    z_len := PySem.W.mg_none_of X G z_len,
    z_list := PySem.W.mg_none_of X G z_list,
    z_range := PySem.W.mg_none_of X G z_range,
    z_repr := PySem.W.mg_none_of X G z_repr,
    z_str := PySem.W.mg_none_of X G z_str,
    z_tuple := PySem.W.mg_none_of X G z_tuple,
    t_FULL_AHEAD := t_FULL_AHEAD, c_FULL_AHEAD := PySem.W.mg_of X G m_FULL_AHEAD,
    t_FULL_ASTERN := t_FULL_ASTERN, c_FULL_ASTERN := PySem.W.mg_of X G m_FULL_ASTERN,
    t_MOST_TURNS := t_MOST_TURNS, c_MOST_TURNS := PySem.W.mg_of X G m_MOST_TURNS }
  exact ⟨PySem.W.fnOf "law" "law" (defArgs s_law) (defBody s_law) (defScope s_law) .none kV9 dc9 pm9 an9 cd9 ct9, fun s v => .of_eq rfl, fun base _ _ => ok_law T⟩
end RO
open PySem PySem.W PyProof.Rows in
set_option maxRecDepth 100000 in
set_option maxHeartbeats 0 in
theorem PySem.Challenge.cw_ringorders_k51_tables_known_holds : PySem.Challenge.rw_ringorders_k51_tables_known.Holds := by
  w_on; o_law; k_head; (case hw => w_witness2)
  k_fill
  refine RO.walk_G (l := PySem.Challenge.rw_ringorders_k51_tables_known) (n := 63) (k := 6) (x := "_law_script") (sp := RO.spLaw) rfl (by decide) rfl ⟨rfl, by decide, by decide⟩ (fun w h Y => PySem.W.kIn_of Y) ?F RO.law_in
  case F =>
    intro w mg fa h KX G hmg
    refine' RO.all_mk KX G hmg ?a0 ?l0 ?c0 ?k0 ?a1 ?l1 ?c1 ?k1 ?a2 ?l2 ?c2 ?k2 ?a3 ?l3 ?c3 ?k3 ?a4 ?l4 ?c4 ?k4 ?a5 ?l5 ?c5 ?k5 ?a6 ?l6 ?c6 ?k6 ?a7 ?l7 ?c7 ?k7 ?a8 ?l8 ?c8 ?k8 ?a9 ?l9 ?c9 ?k9 ?z_abs ?z_all ?z_bool ?z_dict ?z_enumerate ?z_int ?z_isinstance ?z_len ?z_list ?z_range ?z_repr ?z_str ?z_tuple ?m_FULL_AHEAD ?m_FULL_ASTERN ?m_MOST_TURNS
    (case a0 => k_is)
    (case l0 => k_is)
    (case c0 => k_is)
    (case k0 => k_is)
    (case a1 => k_is)
    (case l1 => k_is)
    (case c1 => k_is)
    (case k1 => k_is)
    (case a2 => k_is)
    (case l2 => k_is)
    (case c2 => k_is)
    (case k2 => k_is)
    (case a3 => k_is)
    (case l3 => k_is)
    (case c3 => k_is)
    (case k3 => k_is)
    (case a4 => k_is)
    (case l4 => k_is)
    (case c4 => k_is)
    (case k4 => k_is)
    (case a5 => k_is)
    (case l5 => k_is)
    (case c5 => k_is)
    (case k5 => k_is)
    (case a6 => k_is)
    (case l6 => k_is)
    (case c6 => k_is)
    (case k6 => k_is)
    (case a7 => k_is)
    (case l7 => k_is)
    (case c7 => k_is)
    (case k7 => k_is)
    (case a8 => k_is)
    (case l8 => k_is)
    (case c8 => k_is)
    (case k8 => k_is)
    (case a9 => k_is)
    (case l9 => k_is)
    (case c9 => k_is)
    (case k9 => k_is)
    (case z_abs => k_is)
    (case z_all => k_is)
    (case z_bool => k_is)
    (case z_dict => k_is)
    (case z_enumerate => k_is)
    (case z_int => k_is)
    (case z_isinstance => k_is)
    (case z_len => k_is)
    (case z_list => k_is)
    (case z_range => k_is)
    (case z_repr => k_is)
    (case z_str => k_is)
    (case z_tuple => k_is)
    (case m_FULL_AHEAD => k_is)
    (case m_FULL_ASTERN => k_is)
    (case m_MOST_TURNS => k_is)
