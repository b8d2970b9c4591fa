import PyProof.Rows.All
import Wide.All
import OpenK.AllK
import Wide.FinOn
import HandS.ForMost
import HandS.IsInst
import HandS.Rev
import PyProof.ReprRoads
import PyProof.CallFns
import HandS.EndBits
import HandS.Zip0
import HandS.Walk
import PyProof.Draws
import HandS.More
import HandS.WrittenGet
import HandS.Defaults
import HandS.Wide
import HandS.Conv
import HandS.TupAny
import HandS.Codes
import PyProof.ReprBulk
import HandS.Style
import HandS.NoneIn
import HandS.SortInts
import HandS.RaiseMore
import HandS.Dict
import PyProof.Rows.ReprOcc
import HandS.SetFor
import HandS.SetBool
import HandS.Strs
import HandS.Flow
import HandS.Gcd
import PySem.Challenge.RW_ringorders_k53_headings_and_a_minute
set_option Elab.async false
set_option linter.all false
set_option maxRecDepth 100000
set_option maxHeartbeats 4000000
/-! Ringorders, the ground: promises of defs around which no repr runs, calls by keywords alone, repr of data. -/
namespace RO
open PySem PySem.Spec PyProof.Rows L2

/-- what a def keeps where nothing guards a repr around it -/
structure GOk (P : Program) (w : World) (K : PySem.W.Frag) (mg : Str → Option Value) (base : Heap) (CX : CXT) (k : Nat) (f : Addr) (fd : FuncData) (ps : List Str) (sp : Sp) : Prop where
  many : ∀ vs H Q E, sp vs H Q E → vs.length = ps.length
  runs : ∀ (A : Around) (out : List Env) (s : Shared) (H : Hp) (as : Args) (us : List Value) (vs : List V) (Q : VK) (E : XK),
    Room k A → A.guards = some [] → Env0 P w K mg base A out s H → BindsTo s fd as (ps.zip us) → Vals vs us → sp vs H Q E →
      codeAny (model P w) A (.call (.ref f) as) (CR CX out P w H s Q E) s

section
variable {P : Program} {w : World} {K : PySem.W.Frag} {mg : Str → Option Value} {base : Heap}

theorem GOk.of {CX : CXT} {k : Nat} {f : Addr} {fd : FuncData} {ps : List Str} {sp : Sp} (F : FnOk P w K mg base CX k f fd ps sp) : GOk P w K mg base CX k f fd ps sp :=
  { many := F.len
    runs := fun A out s H as us vs Q E hr _ => F.run A out s H as us vs Q E hr }
theorem GOk.up {CX : CXT} {j k : Nat} {f : Addr} {fd : FuncData} {ps : List Str} {sp : Sp} (F : GOk P w K mg base CX j f fd ps sp) (h : j ≤ k) : GOk P w K mg base CX k f fd ps sp :=
  { many := F.many
    runs := fun A out s H as us vs Q E hr => F.runs A out s H as us vs Q E (Room.mono hr h) }

/-- a def by its body, nothing guarding a repr -/
theorem GOk.body {x qual : Str} {st : Stmt} {f : Addr} {fd : FuncData} {N ps : List Str} {k : Nat} {sp : Sp} (F : Fun K x qual st f fd) (S : FnScope N ps (defScope st))
    (many : ∀ vs H Q E, sp vs H Q E → vs.length = ps.length)
    (hb : ∀ (cdv : Value) (A : Around) (out : List Env) (s : Shared) (H : Hp) (vs : List V) (Q : VK) (E : XK),
      Room k (A.deeper (envOfC qual (defScope st) s.heap.objs.size f cdv)) → A.guards = some [] → sp vs H Q E →
        ∃ t, PSs (cxOf CX0 P w K mg base N qual (defScope st) f cdv A out s H E).nox (defBody st) t ∧ t { nx := fun _ H' => Q .non H', rt := Q } (start N vs) H) :
    GOk P w K mg base CX0 (k + 1) f fd ps sp := by
  obtain ⟨oc, od, kV, doc, pm, an, cdv, ct, osl, e, lk, hcd⟩ := F.ex
  subst e
  constructor
  · exact many
  · intro A out s H as us vs Q E hr hG e0 hbd r hsp
    have h0 := many _ _ _ _ hsp
    have old : ∀ b o, base.get? b = some o → s.heap.get? b = some o := fun b o z => (e0.bs b o z).1
    have hK : K.In s.heap := e0.mod.kin.keeps old
    have hL : s.heap.NoLimit := e0.mod.nolimit.keeps old
    have kinds : ∀ y ∈ ps.zip us, (defScope st).names.lookup y.1 = some .local ∨
        ((defScope st).names.lookup y.1 = some .cell ∧ ((cellsFrom (s.heap.objs.size + 1) (defScope st).names []).lookup y.1).isSome = true) := by
      intro y hy
      cases S.par y.1 (List.of_mem_zip (show (y.1, y.2) ∈ ps.zip us from hy)).1 with
      | inl z => exact Or.inl z
      | inr z => exact Or.inr ⟨z, PySem.W.cellsFrom_some _ _ _ (Or.inl z)⟩
    apply codeAny_call_function hr.depth (hK _ _ lk) rfl S.co S.gen rfl (PySem.W.codeRec_of hK hcd)
    apply hbd
    apply wpAny_newFunctionEnv_cells S.kind kinds
    intro env he s1 x
    subst he
    refine ⟨hL.keeps x.toInCall.keep, codeAny_func ?_⟩
    obtain ⟨t, ht, hq⟩ := hb cdv A out s H vs Q E (hr.deeper _) hG hsp
    have J0 := inv_start (E := E) S hr.hd e0 h0 r x (CX := CX0)
    have done : ∀ {σ' : L2.St} {H' : Hp} {v : V} {u : Value} {s' : Shared}, Inv (cxOf CX0 P w K mg base N qual (defScope st) f cdv A out s H E) [] σ' H' s' → RelV v u → Q v H' → CE out P w H s Q u s' :=
      fun {σ' H' v u s'} J rv q => ⟨v, H', J.os, J.bare, J.base, J.hok, rv, q⟩
    apply wpAny_mono (ht.nox.run [] s1 (start N vs) H _ J0 hq)
    · intro fl s' hs
      match fl, hs with
      | .ret u, ⟨v, σ', H', J, rv, q⟩ => exact done J rv q
      | .next, ⟨σ', H', J, q⟩ => exact done (v := V.non) (u := Value.none) J rfl q
      | .brk, ⟨_, _, _, q⟩ => exact q.elim
      | .cont, ⟨_, _, _, q⟩ => exact q.elim
    · exact fun _ _ hs => hs
end

section
variable {X : Cx} {CX : CXT} {k : Nat} {f C : Addr} {fd : FuncData} {ps ks : List Str} {sp : Sp} {dvs : List V} {ds : List Value} {E : XK} {x m : Str} {p pos : Pos} {e o : Expr} {es : List Expr} {kws : List Keyword} {te ta : TE} {t tk : TA}

theorem GOk.goes {pins : List (Addr × Obj)} {σ : L2.St} {H : Hp} {s : Shared} {Q : VK} {as : Args} {us : List Value} {vs : List V} (F : GOk X.prog X.w X.K X.mg X.base CX k f fd ps sp) (hr : Room k X.A) (hG : X.A.guards = some []) (hx : Passes CX X E)
    (hb : BindsTo s fd as (ps.zip us)) (I : Inv X pins σ H s) (r : Vals vs us) (h : sp vs H Q E) : codeAny (model X.prog X.w) X.A (.call (.ref f) as) (fun r s' => match r with | .ok (.ret u) => EP X pins σ Q u s' | .ok _ => False | .error e => X.xe e s') s := by
  apply codeAny_mono (F.runs X.A X.stack s H as us vs Q E hr hG I.env0 hb r h)
  intro r s' hq
  match r, hq with
  | .error e, hq => exact hx pins σ H s e s' I hq
  | .ok (.ret u), hq => exact I.after hq
  | .ok .next, hq => exact hq.elim
  | .ok .brk, hq => exact hq.elim
  | .ok .cont, hq => exact hq.elim

/-- f(e, ..) where f keeps its promise if no repr is guarded -/
theorem pe_callG (F : GOk X.prog X.w X.K X.mg X.base CX k f fd ps sp) (hr : Room k X.A) (hG : X.A.guards = some []) (hg : Gl X x) (hm : X.mg x = some (.ref f)) (hk : PySem.W.keepIn X.K (.ref f) = true) (hb : Binds X.K fd ps ds) (hd : Vals dvs ds) (hx : Passes CX X E)
    (ha : PA X (e :: es) t) (hdb : (x == ("__debug__" : Str)) = false := by decide) (he : starEach (e :: es) X.env = (false, eval e X.env) :: starEach es X.env := by rfl)
    (hpl : (backTo pos (starEach es X.env)).any (·.1) = false := by rfl) : PE X (.Call (.Name x p) (e :: es) [] pos) (tCall sp dvs E t) := by
  constructor
  intro pins s σ H Q I h
  apply wpAny_Call_Name_kw
  apply ld_glob I hg hm _ hdb
  apply PySem.W.callWith_K (h₀ := X.base) I.ok.mod.kin hk _ he hpl
  apply thn (ha.run pos pins s σ H _ I h)
  rintro us s1 ⟨vs, H1, I1, r, q⟩
  refine ⟨I1.kIn, ?_⟩
  have r2 : Vals (vs ++ dvs) (us ++ ds) := r.append hd
  have hl : (us ++ ds).length = ps.length := r2.length.symm.trans (F.many _ _ _ _ q)
  show wpAny _ _ (call (.ref f) us) _ _ s1
  exact wpAny_call (codeAny_mono (F.goes hr hG hx (hb s1 us I1.kIn hl) I1 r2 q) fun r s' hq => by
    match r, hq with
    | .error e, hq => exact hq
    | .ok (.ret u), hq => exact hq)

/-- f(k = v, ..), nothing by place -/
theorem pe_callK0 {g : List Value → List Value → List Value} {gV : List V → List V → List V} (F : FnOk X.prog X.w X.K X.mg X.base CX k f fd ps sp) (hr : Room k X.A) (hg : Gl X x) (hm : X.mg x = some (.ref f)) (hk : PySem.W.keepIn X.K (.ref f) = true)
    (hb : KBinds X.K fd ps ks g gV) (hx : Passes CX X E) (hkw : PK X kws tk) (hall : (backToKw pos (keywordEach kws X.env)).all (·.1.isSome) = true := by rfl) (hks : (backToKw pos (keywordEach kws X.env)).filterMap (·.1) = ks := by rfl)
    (hdb : (x == ("__debug__" : Str)) = false := by decide)
    (hpl : ((backTo pos (starEach [] X.env)).any (·.1) || (backToKw pos (keywordEach kws X.env)).any (·.1.isNone)) = false := by rfl) :
    PE X (.Call (.Name x p) [] kws pos) (tCallK sp gV E tNil tk) := by
  constructor
  intro pins s σ H Q I h
  apply wpAny_Call_Name_kw
  apply ld_glob I hg hm _ hdb
  apply PySem.W.callWith_KW0 (h₀ := X.base) I.ok.mod.kin hk hall _ hpl
  apply thn (hkw.run pos pins s σ H _ I h)
  rintro ws s1 ⟨zs, H1, I1, rz, q⟩
  refine ⟨I1.kIn, ?_⟩
  rw [hks]
  exact run_fnk (us := []) F hr hb hx I1 .nil rz q

/-! ### repr -/
/-- repr of data -/
def rRepr (K : PySem.W.Frag) : List V → Hp → VK → Prop := fun xs H Q => ∃ v d, xs = [v] ∧ Dp K H v d ∧ PyData.showable d = true ∧ d.hasDict = false ∧ d.depth ≤ 40 ∧ d.shown.length ≤ sizeLine ∧ Q (.str d.shown) H
theorem call_repr (hG : X.A.guards = some []) (hu : X.A.units + 64 < cLine) : CallR X (.builtin "repr") (rRepr X.K) := by
  intro pins s σ H xs us Q I r h
  obtain ⟨v, d, rfl, hd, hs, hn, h40, hz, q⟩ := h
  obtain ⟨u, rfl, ru⟩ := vals1 r
  have fin : ∀ (h' : Heap) (tk : Nat) (u : Tok), (∀ b o, s.heap.get? b = some o → h'.get? b = some o) → EP X pins σ Q (.str d.shown u) { s with heap := h', toks := tk } :=
    fun h' tk u hk => ⟨.str d.shown, H, I.un (Un.kept hk) (I.hok.kept hk), ⟨u, rfl⟩, q⟩
  obtain ⟨as, rd⟩ := Dp.reads I d v u hd ru
  cases hd with
  | non =>
    cases ru
    exact P.repr_of_none (fin s.heap _ _ fun _ _ z => z)
  | bl b =>
    cases ru
    refine P.repr_of_bool ?_
    have z := fin s.heap (s.toks + 1) s.toks fun _ _ z => z
    cases b <;> exact z
  | int i =>
    obtain ⟨t, rfl⟩ := ru
    refine P.repr_of_int ?_ ?_
    · simpa [PyData.showable] using hs
    · have z := fin s.heap (s.toks + 1) s.toks fun _ _ z => z
      simpa [PyData.shown] using z
  | str x =>
    obtain ⟨t, rfl⟩ := ru
    have z := fin s.heap (s.toks + 1) s.toks fun _ _ z => z
    simp only [PyData.shown_str] at z hz
    exact P.repr_of_str z hz
  | lst h1 h2 =>
    cases ru
    exact repr_of_reads' rd hs (PyData.noDict_hsm hn) hG (by omega) (fun _ _ z => z) (fun h' u tk hk => fin h' tk u hk) hz
  | tup h1 h2 =>
    cases ru
    exact repr_of_reads' rd hs (PyData.noDict_hsm hn) hG (by omega) (fun _ _ z => z) (fun h' u tk hk => fin h' tk u hk) hz
end
end RO

namespace RO
open PySem PySem.Spec PyProof.Rows L2

/-- the abstract heap at the law's entry: the script alone, locked, where the text itself doesn't hold it -/
def scriptH (K : PySem.W.Frag) (a : Addr) (o : Obj) (ns : List Int) : Hp := fun b => if b = a ∧ K.lookup a = none then some (.frz o (.lst (ns.map V.int))) else none

/-- the law's def is called as TURN's statement calls it -/
theorem law_runs {P : Program} {w : World} {K : PySem.W.Frag} {mg mb : Str → Option Value} {k : Nat} {fa a : Addr} {fd : FuncData} {x : Str} {sp : Sp} {s1 : Shared} {vs : List Value} {ns : List Int}
    (hK : K.In s1.heap) (hm : s1.heap.Ns mainGlobals mg) (hb : s1.heap.Ns builtinsNs mb) (hbb : ∀ y : Str, y ≠ "__name__" → mb y = bootBuiltins y) (hL : s1.heap.NoLimit) (hgn : s1.gens = #[])
    (ha : s1.heap.get? a = some { cls := .type "list", data := .seq vs.toArray }) (hi : IntsAre vs ns) (hn : ns.length ≤ sizeLine) (hr : Room k callerA)
    (F : ∀ base : Heap, K.In base → base.Ns mainGlobals mg → GOk P w K mg base CX0 k fa fd [x] sp) (hbd : ∀ (s : Shared) (u : Value), BindsTo s fd ⟨[u], []⟩ [(x, u)])
    (hsp : ∀ H : Hp, Only H → SqL K H a (ns.map V.int) → sp [.ref a] H (fun v _ => v = .bl true) fun _ _ _ => False) :
    codeAny (model P w) callerA (.call (.ref fa) ⟨[.ref a], []⟩) (fun r s' => r = .ok (.ret (.bool true)) ∧ OldK s1.heap s'.heap ∧ s'.os = s1.os ∧ AllBare s'.gens) s1 := by
  let ob : Obj := { cls := .type "list", data := .seq vs.toArray }
  let H : Hp := scriptH K a ob ns
  have hH : ∀ b u, H b = some u → b = a ∧ K.lookup a = none ∧ u = .frz ob (.lst (ns.map V.int)) := by
    intro b u z
    by_cases c : b = a ∧ K.lookup a = none
    · have z2 : (if b = a ∧ K.lookup a = none then some (HO.frz ob (.lst (ns.map V.int))) else none) = some u := z
      rw [if_pos c] at z2
      cases z2
      exact ⟨c.1, c.2, rfl⟩
    · have z2 : (if b = a ∧ K.lookup a = none then some (HO.frz ob (.lst (ns.map V.int))) else none) = some u := z
      rw [if_neg c] at z2
      cases z2
  have hOnly : Only H := fun b => by
    cases z : H b with
    | none => exact .inl rfl
    | some u => exact .inr ⟨ob, _, congrArg some (hH b u z).2.2⟩
  have rv := vals_ints hi
  have sizes : vs.length = ns.length := hi.length
  have hS : SqL K H a (ns.map V.int) := by
    cases z : K.lookup a with
    | some o =>
      have e := hK a o z
      rw [ha] at e
      cases e
      exact Or.inr ⟨_, vs.toArray, _, z, rfl, rfl, rfl, by rw [List.size_toArray, sizes]; exact hn, by simpa using rv⟩
    | none => exact Or.inl (Or.inr ⟨ob, if_pos ⟨rfl, z⟩⟩)
  have hOk : HOk P w H s1.heap := fun b u z => by
    obtain ⟨e1, _, e3⟩ := hH b u z
    subst e1
    subst e3
    exact ⟨ha, by rw [List.length_map]; exact hn, vs, _, rv, ha⟩
  have stays : ∀ {b : Addr} {o : Obj}, s1.heap.get? b = some o → H b = none → (hidT s1.heap H).get? b = some o := fun e n => hidT_get e n
  have keptK : K.In (hidT s1.heap H) := by
    intro b o z
    refine stays (hK b o z) ?_
    cases q : H b with
    | none => rfl
    | some u =>
      obtain ⟨e1, e2, _⟩ := hH b u q
      rw [e1, e2] at z
      cases z
  have keptN : ∀ {b : Addr} {m : Str → Option Value}, s1.heap.Ns b m → (hidT s1.heap H).Ns b m := by
    rintro b m ⟨o, es, ep, e, d, r⟩
    refine ⟨o, es, ep, stays e ?_, d, r⟩
    cases q : H b with
    | none => rfl
    | some u =>
      obtain ⟨e1, _, _⟩ := hH b u q
      rw [e1, ha] at e
      cases e
      exact nomatch (show Data.seq vs.toArray _ = Data.dict es ep from d)
  obtain ⟨mc, l1, l2⟩ := hL
  have start0 : Env0 P w K mg (hidT s1.heap H) callerA [] s1 H :=
    { frames := rfl
      mod := ⟨keptK, keptN hm, ⟨mb, keptN hb, hbb⟩, ⟨mc, keptN l1, l2⟩⟩
      bs := fun _ _ z => of_hidT z
      bsz := Nat.le_of_eq (hidT_size _ _)
      funs := trivial
      frf := fun b z => absurd (show b ∈ ([] : List Addr) from z) (by simp)
      hok := hOk
      bare := .of_eq hgn }
  apply codeAny_mono ((F _ keptK (keptN hm)).runs callerA [] s1 H ⟨[.ref a], []⟩ [.ref a] [.ref a] _ _ hr rfl start0 (hbd s1 (.ref a)) (.cons rfl .nil) (hsp H hOnly hS))
  intro r s' h
  match r, h with
  | .error _, h => exact h.elim
  | .ok .next, h => exact h.elim
  | .ok .brk, h => exact h.elim
  | .ok .cont, h => exact h.elim
  | .ok (.ret u), ⟨v, H', os, bare, un, hok', r', q⟩ =>
    have q' : v = .bl true := q
    subst q'
    have r2 : u = Value.bool true := r'
    subst r2
    refine ⟨rfl, OldK.of_keep fun b o e => ?_, os, bare⟩
    cases q : H b with
    | none => exact un.keep b o e q (by intro z; exact absurd (show b ∈ ([] : List Addr) from z) (by simp)) (by simp)
    | some t =>
      have q2 := q
      rw [(hH b t q).2.2] at q2
      have f1 := (hOk b _ q2).1
      have f2 := (hok' b _ (un.frzs b ob _ q2)).1
      rw [e] at f1
      rw [f2, f1]

/-- the goal behind the head, from the law's promise; the script's bits told -/
theorem walk_G {l : PySem.W.OpenLaw} {n k : Nat} {q : Program} {loose : List Str} {XP : (Str → Option Value) → Heap → Prop} {YP : World → Heap → Prop} {d : DefRec} {K : Params → PySem.W.Frag} {sp : PySem.W.Frag → Sp} {x : Str}
    (hn : l.most = some n) (hn2 : n ≤ sizeLine) (hdf : d.params.defaults = []) (hr : Room k callerA) (hY : ∀ (w : World) (h : Heap), YP w h → (K w.params).In h)
    (F : ∀ (w : World) (mg : Str → Option Value) (fa : Addr) (h : Heap), (K w.params).In h → h.Ns mainGlobals mg → mg d.name = some (.ref fa) →
      ∃ fd : FuncData, (∀ (s : Shared) (u : Value), BindsTo s fd ⟨[u], []⟩ [(x, u)]) ∧ ∀ base : Heap, (K w.params).In base → base.Ns mainGlobals mg → GOk l.prog w (K w.params) mg base CX0 k fa fd [x] (sp (K w.params)))
    (hsp : ∀ (K : PySem.W.Frag) (H : Hp) (a : Addr) (ns : List Int), ns.length ≤ n → (∀ k ∈ ns, Builtin.Int.intBits k ≤ 1048576) → Only H → SqL K H a (ns.map V.int) → sp K [.ref a] H (fun v _ => v = .bl true) fun _ _ _ => False) :
    PySem.W.WalkO q loose XP YP l.row.toRowW d [] (fun f vs => PySem.call f vs) := by
  apply Att.attach_callB hn hdf
  intro w s0 s1 mg mb fa o pm cd doc a vs ns G Y ho hd hcd hmg hobj hints hlen hbits hg
  have hK := hY w _ Y
  obtain ⟨fd, hb, hF⟩ := F w mg fa _ hK G.T.g hmg
  exact law_runs hK G.T.g G.T.b G.T.builtins G.T.nolimit hg hobj hints (Nat.le_trans hlen hn2) hr hF hb fun H hO hS => hsp (K w.params) H a ns hlen hbits hO hS
end RO

namespace RO
open PySem PySem.Spec PyProof.Rows L2

/-! ### enumerate of a tuple -/
theorem drawsT {prog : Program} {w : World} {A : Around} (hh : A.handled = none) (it t : Addr) (hne : t ≠ it) (items : Array Value) :
    Draws prog w A it [it, t] items.size (fun i v => items[i]? = some v) (fun i h => h.IsTupleIter it t i ∧ h.IsTuple t items) where
  live := fun _ _ st => by
    obtain ⟨⟨o, ho, _⟩, _⟩ := st
    exact ⟨o, ho⟩
  frame := fun i h h' st hk => ⟨Heap.IsTupleIter.at st.1 (hk it (List.mem_cons_self ..)), by
    obtain ⟨o, e, r⟩ := st.2
    exact ⟨o, hk t (by simp) o e, r⟩⟩
  item := fun i s Q E hi st hQ => RZ.nextOf_tuple_item st.1 st.2 (x := items[i]) (by simp [hi]) fun h' hit' sb =>
    hQ _ h' s.toks (by simp [hi]) ⟨hit', by
      obtain ⟨o, e, r⟩ := st.2
      exact ⟨o, (sb.2 t hne).trans e, r⟩⟩ sb
  done := fun s Q E st hE => RZ.nextOf_tuple_end hh st.1 st.2 (by simp) hE

open Sem (wp) in
open AutoSeq1 (wpAny_loadPart') in
theorem meets_enum_newT (l : Addr) (items : Array Value) (n : Nat) (dct : Option Addr) (sl : Array (Option Value)) :
    Meets (Builtin.«enumerate.__new__» ⟨[.type "enumerate", .ref l], []⟩) (fun _ R s => s.heap.get? l = some { cls := .type "tuple", dict := dct, data := .seq items n, slots := sl } ∧
      R (.ok (.ret (.ref (s.heap.push { cls := .type "tuple_iterator", data := .fields #[.ref l, .int 0 0] }).objs.size)))
        { s with heap := (s.heap.push { cls := .type "tuple_iterator", data := .fields #[.ref l, .int 0 0] }).push { cls := .type "enumerate", data := .fields #[.none, .bool false, .ref s.heap.objs.size, rawInt 0, .none, .none] } }) := by
  refine Meets.of_wp fun prog w A R s h => ?_
  obtain ⟨hp, g, d, tk, os⟩ := s
  obtain ⟨hl, h⟩ := h
  have hsub := sub_enumerate
  have hT : Heap.IsTuple (Shared.heap ⟨hp, g, d, tk, os⟩) l items := ⟨_, hl, rfl, n, rfl⟩
  wp_walk using wpAny_loadPart' hl
  refine wpAny_stack_any fun st => wpAny_pure ?_
  split
  · rename_i c _ _ _ _ _
    cases (c == Value.type "enumerate") <;>
      (wp_walk using wpAny_loadPart' hl, wpAny_pyIter_tuple hT; exact ⟨_, rfl, h⟩)
  · wp_walk using wpAny_loadPart' hl, wpAny_pyIter_tuple hT
    exact ⟨_, rfl, h⟩

theorem call_enumT {prog : Program} {w : World} {A : Around} {E : Value → Shared → Prop} {s : Shared} {l : Addr} {items : Array Value} {Q : Value → Shared → Prop} (hT : s.heap.IsTuple l items)
    (h : ∀ h', IsEnum h' (s.heap.objs.size + 1) s.heap.objs.size 0 .none → h'.IsTupleIter s.heap.objs.size l 0 → h'.objs.size = s.heap.objs.size + 2 → (∀ b o, s.heap.get? b = some o → h'.get? b = some o) →
      Q (.ref (s.heap.objs.size + 1)) { s with heap := h' }) : wpAny (model prog w) A (call (.type "enumerate") [.ref l]) Q E s := by
  obtain ⟨⟨c, dct, dt, sl⟩, hl, hc, n, hd⟩ := hT
  have hc' : c = .type "tuple" := hc
  have hd' : dt = .seq items n := hd
  subst hc' hd'
  apply callType_new F.called_enumerate (by decide) (F.typeCall_enumerate_1 _) (F.newCall_enumerate_1 _) (fun obj => F.args_object_init_2 obj _) F.entry_enumerate_new (meets_enum_newT l items n dct sl)
  refine ⟨hl, ?_⟩
  let h1 := s.heap.push { cls := .type "tuple_iterator", data := .fields #[.ref l, .int 0 0] }
  have hz : h1.objs.size = s.heap.objs.size + 1 := Heap.size_push ..
  show _ ∧ _
  rw [show (s.heap.push { cls := .type "tuple_iterator", data := .fields #[.ref l, .int 0 0] }).objs.size = s.heap.objs.size + 1 from hz]
  have he : IsEnum (h1.push { cls := .type "enumerate", data := .fields #[.none, .bool false, .ref s.heap.objs.size, rawInt 0, .none, .none] }) (s.heap.objs.size + 1) s.heap.objs.size 0 .none := by
    have z := Heap.get?_push_size h1 (o := { cls := .type "enumerate", data := .fields #[.none, .bool false, .ref s.heap.objs.size, rawInt 0, .none, .none] }) rfl
    rw [hz] at z
    exact z
  exact ⟨⟨_, he, rfl⟩, h _ he ⟨_, Heap.get?_push_of_some _ (Heap.get?_push_size _ rfl), rfl, rfl⟩ ((Heap.size_push ..).trans (congrArg (· + 1) hz)) fun b o x => Heap.get?_push_of_some _ (Heap.get?_push_of_some _ x)⟩

/-- the tuple at a, each item in a new pair with its number -/
def IteT (K : PySem.W.Frag) (a : Addr) : It where
  go := fun i H => ∃ (xs : List V) (x : V), SqT K H a xs ∧ xs[i]? = some x
  yld := fun i H v H' => ∃ T x, v = .ref T ∧ H T = none ∧ H' = upd H T (.tup [.int (i : Nat), x]) ∧ ∀ xs, SqT K H a xs → xs[i]? = some x
  stop := fun i H => ∃ xs : List V, SqT K H a xs ∧ xs.length = i

theorem turn_enumT {P : Program} {w : World} {K : PySem.W.Frag} {elts : List Expr} {kk : Nat} {tpos : Pos} (a e it : Addr) (hae : a ≠ e) (hai : a ≠ it) (hne : e ≠ it) :
    Turn P w K (.Tuple elts kk tpos) (IteT K a) [e, it] e (fun i h => (∃ old, IsEnum h e it ((i : Nat) : Int) old) ∧ h.IsTupleIter it a i) where
  mem := List.mem_cons_self ..
  obj := fun i h st b hb => by
    obtain ⟨⟨old, he⟩, ⟨o, ho, hc, hd⟩⟩ := st
    rcases List.mem_cons.mp hb with z | z
    · rw [z]
      exact ⟨_, he, fun v q => nomatch q⟩
    · have z' : b = it := by simpa using z
      exact ⟨o, z' ▸ ho, fun v q => by rw [hd] at q; cases q⟩
  keep := fun i h h' st k => by
    obtain ⟨⟨old, he⟩, hi⟩ := st
    exact ⟨⟨old, k e (by simp) _ he⟩, Heap.IsTupleIter.at hi (k it (by simp))⟩
  item := by
    intro X hP hw hK hc i pins s σ H E I hf st hg
    subst hP hw hK
    obtain ⟨⟨old, he⟩, hit⟩ := st
    obtain ⟨xs, x, hq, hx⟩ := hg
    obtain ⟨its, rv, p, hz⟩ := I.tuple hq
    obtain ⟨u, hu, ru⟩ := rv.get hx
    have hlt : i < its.toArray.size := by
      obtain ⟨z, _⟩ := List.getElem?_eq_some_iff.mp hu
      simpa using z
    have hel : e < s.heap.objs.size := Heap.lt_size he
    have hil : it < s.heap.objs.size := by
      obtain ⟨_, q, _⟩ := hit
      exact Heap.lt_size q
    refine wpAny_pyNext_enum_itemD (drawsT (A := X.A.in1) (I.ok.hd hc) it a hai its.toArray) he ⟨hit, p⟩ hlt hne (by simp [hne, Ne.symm hae]) fun y h' tk hy ho hst hT hsz hk => ?_
    have ey : y = u := by
      have z : its.toArray[i]? = some u := by simpa using hu
      exact Option.some.inj (hy.symm.trans z)
    subst ey
    refine ⟨_, rfl, wpAny_letOwnedTupleGo_enum (s := { s with heap := h', toks := tk + 1 }) ho fun h2 he2 sb => ?_⟩
    have hT2 : h2.get? s.heap.objs.size = some { cls := .type "tuple", data := .seq #[.int i tk, y] } := (sb.2 _ (Nat.ne_of_gt hel)).trans hT
    have new : ObjOk X.prog X.w (upd H s.heap.objs.size (.tup [.int (i : Nat), x])) h2 s.heap.objs.size (.tup [.int (i : Nat), x]) := by
      refine ⟨by show 2 ≤ sizeLine; decide, [.int i tk, y], .cons ⟨_, rfl⟩ (.cons ru .nil), ⟨_, hT2, rfl, _, rfl⟩⟩
    have I1 : Inv X pins σ (upd H s.heap.objs.size (.tup [.int (i : Nat), x])) { s with heap := h2, toks := tk + 1 } := by
      refine I.turnedNew (ch := [e, it]) (fun b ob hb q => ?_) hf (Nat.le_refl _) new
      have n1 : b ≠ e := fun z => hb (by simp [z])
      have n2 : b ≠ it := fun z => hb (by simp [z])
      exact (sb.2 b n1).trans (hk b ob n1 n2 q)
    refine ⟨.ref s.heap.objs.size, _, I1, rfl, ⟨_, x, rfl, I.hok.fresh (Nat.le_refl _), rfl, fun ys hy => (I.tuple_inj hy hq).symm ▸ hx⟩, ⟨⟨y, ?_⟩, Heap.IsTupleIter.at hst.1 fun o q => (sb.2 it (Ne.symm hne)).trans q⟩, fun b hb => ?_⟩
    · rw [show ((i + 1 : Nat) : Int) = (i : Int) + 1 from by omega]
      exact he2
    · have hb2 : b = e ∨ b = it := by simpa using hb
      have lt : b < s.heap.objs.size := hb2.elim (fun z => z ▸ hel) fun z => z ▸ hil
      exact (upd_ne (Nat.ne_of_lt lt)).trans (hf b hb).1
  done := by
    intro X hP hw hK hc i pins s σ H E I hf st hg
    subst hP hw hK
    obtain ⟨⟨old, he⟩, hit⟩ := st
    obtain ⟨xs, hq, hx⟩ := hg
    obtain ⟨its, rv, p, hz⟩ := I.tuple hq
    obtain ⟨f0, f1, f2, f3, f4, f5⟩ := hf it (by simp)
    have hl : its.toArray.size = i := by
      rw [List.size_toArray, ← rv.length, hx]
    rw [← hl] at hit
    exact wpAny_pyNext_enum_endD (drawsT (A := X.A.in1) (I.ok.hd hc) it a hai its.toArray) he ⟨hit, p⟩ fun h' eb => ⟨rfl, I.turned (t' := s.toks) (fun b o hb q => eb b o hb q) f0 f1 f3 f4 f5⟩
  self := fun A i s Q E st h => by
    obtain ⟨⟨_, he⟩, _⟩ := st
    exact wpAny_pyIter_enum he h

/-- enumerate(x), x a list or a tuple -/
def iEnumA (K : PySem.W.Frag) (ta : TA) : TI := fun σ H R => ta σ H fun vs H1 => ∃ a xs, vs = [.ref a] ∧ ((SqL K H1 a xs ∧ R (Ite K a) H1) ∨ (SqT K H1 a xs ∧ R (IteT K a) H1))
theorem pi_enumA {X : Cx} {e : Expr} {ta : TA} {p pos tpos : Pos} {elts : List Expr} {kk : Nat} (hg : Gl X "enumerate") (hm : X.mg "enumerate" = none) (ha : PA X [e] ta) (hs : starEach [e] X.env = [(false, eval e X.env)] := by rfl) :
    PI X (.Tuple elts kk tpos) (.Call (.Name "enumerate" p) [e] [] pos) (iEnumA X.K ta) := by
  constructor
  intro pins s σ H R I h
  refine Call_ ?_
  apply ld_blt I hg hm boot_enumerate
  apply PyProof.Rows.callWith_type1 _ hs rfl
  apply thn (ha.run pos pins s σ H _ I h)
  rintro us s1 ⟨vs, H1, I1, r1, a, xs, ex, q⟩
  subst ex
  obtain ⟨u, rfl, ru⟩ := vals1 r1
  obtain rfl : u = Value.ref a := ru
  have hle : ∀ b, b ∈ [s1.heap.objs.size + 1, s1.heap.objs.size] → FpOk X pins H1 b := fun b hb => by
    have z : b = s1.heap.objs.size + 1 ∨ b = s1.heap.objs.size := by simpa using hb
    have l : s1.heap.objs.size ≤ b := by omega
    exact I1.fpOk l (I1.hok.fresh l)
  rcases q with ⟨hq, q⟩ | ⟨hq, q⟩
  · obtain ⟨its, rv, p', hz⟩ := I1.list hq
    refine call_enumerate_list p'.isList fun h' he hit hsz hk => wpAny_pyIter_enum he ?_
    exact ⟨s1.heap.objs.size + 1, [s1.heap.objs.size + 1, s1.heap.objs.size], _, _, H1, rfl, I1.kept (t' := s1.toks) hk, turn_enum a (s1.heap.objs.size + 1) s1.heap.objs.size, ⟨⟨.none, he⟩, hit, Nat.succ_ne_self _⟩, hle, q⟩
  · obtain ⟨its, rv, p', hz⟩ := I1.tuple hq
    obtain ⟨o, ho, _⟩ := id p'
    have hal : a < s1.heap.objs.size := Heap.lt_size ho
    refine call_enumT p' fun h' he hit hsz hk => wpAny_pyIter_enum he ?_
    exact ⟨s1.heap.objs.size + 1, [s1.heap.objs.size + 1, s1.heap.objs.size], _, _, H1, rfl, I1.kept (t' := s1.toks) hk, turn_enumT a (s1.heap.objs.size + 1) s1.heap.objs.size (Nat.ne_of_lt (Nat.lt_succ_of_lt hal)) (Nat.ne_of_lt hal) (Nat.succ_ne_self _), ⟨⟨.none, he⟩, hit⟩, hle, q⟩

section
variable {K : PySem.W.Frag} {a : Addr} {xs : List V}
theorem walk_enumT : Walk (IteT K a) xs.length (fun H => SqT K H a xs) (YPair (fun i => some (.int (i : Nat))) (fun i => xs[i]?)) where
  goes := fun i _ hi q => ⟨xs, xs[i], q, by simp [hi]⟩
  stops := fun _ q => ⟨xs, q, rfl⟩
  yields := fun i H v H' _ q y => by
    obtain ⟨T, x, h1, h2, h3, h4⟩ := y
    exact ⟨T, _, x, h1, h2, h3, rfl, h4 xs q⟩
theorem walk_revT : Walk (RT.ItvT K a xs.length) xs.length (fun H => SqT K H a xs) (fun i H x H' => H' = H ∧ xs[xs.length - 1 - i]? = some x) where
  goes := fun i _ hi q => ⟨hi, xs, xs[xs.length - 1 - i], q, by
    have : xs.length - 1 - i < xs.length := by omega
    simp [this]⟩
  stops := fun _ _ => Nat.le_refl _
  yields := fun i H v H' _ q y => ⟨y.1, y.2 xs q⟩
end
end RO

namespace RO
open PySem PySem.Spec PyProof.Rows L2

/-! ### heaps -/
/-- what is tracked, but at p, is kept -/
def But (p : Addr) (H H' : Hp) : Prop := ∀ b o, b ≠ p → H b = some o → H' b = some o
section
variable {K : PySem.W.Frag} {H H0 H1 H2 : Hp} {p q a c l : Addr} {o : HO} {xs : List V} {n m : Nat}
theorem But.refl : But p H H := fun _ _ _ h => h
theorem But.trans (h : But p H H1) (h2 : But p H1 H2) : But p H H2 := fun b u n e => h2 b u n (h b u n e)
theorem But.of_same (h : Same H H1) : But p H H1 := fun b u _ e => h b u e
theorem But.put : But p H (upd H p o) := fun b u n e => (upd_ne n).trans e
theorem But.new (h : But p H0 H) (hq : H q = none) : But p H0 (upd H q o) := fun b u n e => (upd_ne (ne_of_none (h b u n e) hq)).trans (h b u n e)
/-- a place that was free at the beginning may be written -/
theorem But.own (h : But p H0 H) (hl : H0 l = none) : But p H0 (upd H l o) := fun b u n e => (upd_ne (ne_of_none e hl)).trans (h b u n e)
theorem But.rd {u : HO} (h : But p H H1) (n : a ≠ p) (r : Rd H a u) : Rd H1 a u := by
  rcases r with r | ⟨o, r⟩
  · exact .inl (h _ _ n r)
  · exact .inr ⟨o, h _ _ n r⟩
theorem But.seqL (h : But p H H1) (n : a ≠ p) (r : SqL K H a xs) : SqL K H1 a xs := r.imp (h.rd n) id
theorem But.seqT (h : But p H H1) (n : a ≠ p) (r : SqT K H a xs) : SqT K H1 a xs := r.imp (h.rd n) id
theorem same_rd {u : HO} (h : Same H H1) (r : Rd H a u) : Rd H1 a u := by
  rcases r with r | ⟨o, r⟩
  · exact .inl (h _ _ r)
  · exact .inr ⟨o, h _ _ r⟩
theorem same_seqL (h : Same H H1) (r : SqL K H a xs) : SqL K H1 a xs := r.imp (same_rd h) id
theorem same_seqT (h : Same H H1) (r : SqT K H a xs) : SqT K H1 a xs := r.imp (same_rd h) id
theorem same_new (h : Same H0 H) (hq : H q = none) : Same H0 (upd H q o) := fun b u e => (upd_ne (ne_of_none (h b u e) hq)).trans (h b u e)
theorem same_own (h : Same H0 H) (hl : H0 l = none) : Same H0 (upd H l o) := fun b u e => (upd_ne (ne_of_none e hl)).trans (h b u e)

theorem alloc (hl : H l = none) (e : upd H l o = H1) : Same H H1 ∧ H1 l = some o := by
  subst e
  exact ⟨same_new (Same.refl _) hl, upd_same⟩

theorem owned (S : Same H0 H) (hl : H0 l = none) (e : upd H l o = H1) : Same H0 H1 ∧ H1 l = some o := by
  subst e
  exact ⟨same_own S hl, upd_same⟩

/-! ### the law's pen: a list of the script's cells, a place, a rest -/
def PenAt (H : Hp) (p c : Addr) (n : Nat) : Prop := ∃ at_ cy : Int, H p = some (.lst [.ref c, .int at_, .int cy]) ∧ 0 ≤ at_ ∧ at_ ≤ n ∧ 0 ≤ cy
def Cells (K : PySem.W.Frag) (H : Hp) (p c : Addr) : Prop := c ≠ p ∧ ∃ ns : List Int, SqL K H c (ns.map V.int) ∧ ns.length ≤ 63
/-- from H0 to H: the pen at p has gone on to n draws at most, all else is kept -/
structure Go (K : PySem.W.Frag) (p c : Addr) (H0 : Hp) (n : Nat) (H : Hp) : Prop where
  but : But p H0 H
  pen : PenAt H p c n
  cel : Cells K H p c
theorem Cells.but (h : Cells K H p c) (b : But p H H1) : Cells K H1 p c := by
  obtain ⟨ne, ns, r, l⟩ := h
  exact ⟨ne, ns, b.seqL ne r, l⟩
theorem PenAt.mono (h : PenAt H p c n) (hm : n ≤ m) : PenAt H p c m := by
  obtain ⟨i, j, e, h1, h2, h3⟩ := h
  exact ⟨i, j, e, h1, by omega, h3⟩
theorem Go.refl (h : PenAt H p c n) (hc : Cells K H p c) : Go K p c H n H := ⟨But.refl, h, hc⟩
theorem Go.self (g : Go K p c H0 n H) : Go K p c H n H := ⟨But.refl, g.pen, g.cel⟩
theorem Go.mono (g : Go K p c H0 n H) (hm : n ≤ m) : Go K p c H0 m H := ⟨g.but, g.pen.mono hm, g.cel⟩
theorem Go.trans (g : Go K p c H0 n H1) (g2 : Go K p c H1 m H2) : Go K p c H0 m H2 := ⟨g.but.trans g2.but, g2.pen, g2.cel⟩
theorem Go.tracked (g : Go K p c H0 n H) : ∃ o, H p = some o := by
  obtain ⟨_, _, e, _⟩ := g.pen
  exact ⟨_, e⟩
theorem Go.ne_new (g : Go K p c H0 n H) (hq : H q = none) : p ≠ q := by
  obtain ⟨o, e⟩ := g.tracked
  exact ne_of_none e hq
theorem Go.make {i j : Int} (hc : Cells K H0 p c) (b : But p H0 H) (e : H p = some (.lst [.ref c, .int i, .int j])) (h1 : 0 ≤ i) (h2 : i ≤ (n : Nat)) (h3 : 0 ≤ j) : Go K p c H0 n H := ⟨b, ⟨i, j, e, h1, h2, h3⟩, hc.but b⟩
theorem Go.free (g : Go K p c H0 n H) (hq : H q = none) : H0 q = none := by
  cases z : H0 q with
  | none => rfl
  | some o => exact absurd (g.but q o (Ne.symm (g.ne_new hq)) z) (by rw [hq]; exact nofun)
/-- a new object -/
theorem Go.new (g : Go K p c H0 n H) (hq : H q = none) : Go K p c H0 n (upd H q o) := by
  have hp := g.ne_new hq
  obtain ⟨i, j, e, r⟩ := id g.pen
  have b1 : But p H (upd H q o) := But.refl.new hq
  exact ⟨g.but.new hq, ⟨i, j, (upd_ne hp).trans e, r⟩, g.cel.but b1⟩
/-- an own object is written: it was free at the beginning; the cells aren't it -/
theorem Go.own (g : Go K p c H0 n H) (hl : H0 l = none) (hp : l ≠ p) (hc : Cells K H0 p c) : Go K p c H0 n (upd H l o) := by
  obtain ⟨i, j, e, r⟩ := id g.pen
  exact ⟨g.but.own hl, ⟨i, j, (upd_ne (Ne.symm hp)).trans e, r⟩, hc.but (g.but.own hl)⟩
theorem Go.same (g : Go K p c H0 n H) (h : Same H H1) : Go K p c H0 n H1 := by
  obtain ⟨i, j, e, r⟩ := id g.pen
  exact ⟨g.but.trans (But.of_same h), ⟨i, j, h _ _ e, r⟩, g.cel.but (But.of_same h)⟩
end

/-! ### numbers -/
theorem fmod_lt {a b : Int} (h : 0 < b) : Int.fmod a b < b := Int.fmod_lt_of_pos a h
theorem fmod_ge {a b : Int} (h : 0 < b) : 0 ≤ Int.fmod a b := Int.fmod_nonneg_of_pos a h
theorem fdiv_ge {a b : Int} (h : 0 ≤ a) (h2 : 0 ≤ b) : 0 ≤ Int.fdiv a b := Int.fdiv_nonneg h h2

theorem atI_fmod {α : Type} {xs : List α} {i : Int} (h : 0 < xs.length) : ∃ v, v ∈ xs ∧ atI xs (Int.fmod i xs.length) = some v := by
  have h0 : (0 : Int) < xs.length := by omega
  have g := fmod_ge (a := i) h0
  have l := fmod_lt (a := i) h0
  obtain ⟨j, e⟩ := Int.eq_ofNat_of_zero_le g
  rw [e] at l ⊢
  have hj : j < xs.length := by omega
  exact ⟨xs[j], List.getElem_mem hj, atI_nat (List.getElem?_eq_getElem hj)⟩
theorem atI_lt {α : Type} {xs : List α} {i : Int} (h0 : 0 ≤ i) (h : i < xs.length) : ∃ v, v ∈ xs ∧ atI xs i = some v := by
  obtain ⟨j, rfl⟩ := Int.eq_ofNat_of_zero_le h0
  have hj : j < xs.length := by omega
  exact ⟨xs[j], List.getElem_mem hj, atI_nat (List.getElem?_eq_getElem hj)⟩

/-! ### data whose repr is short -/
structure RepOk (d : PyData) (k n : Nat) : Prop where
  sh : d.showable = true
  nd : d.hasDict = false
  dp : d.depth ≤ k
  lv : d.leavesShort 400 = true
  cl : d.canLay0 = true
  bk : d.bulk ≤ n
theorem RepOk.mono {d : PyData} {k n k' n' : Nat} (h : RepOk d k n) (hk : k ≤ k') (hn : n ≤ n') : RepOk d k' n' := ⟨h.sh, h.nd, Nat.le_trans h.dp hk, h.lv, h.cl, Nat.le_trans h.bk hn⟩
theorem RepOk.fits {d : PyData} {k n : Nat} (h : RepOk d k n) (hn : n ≤ 40000) : d.shown.length ≤ sizeLine := by
  have e := PyData.shown_le_bulk 400 (by decide) d h.lv
  have b := h.bk
  have : (400 + 2) * d.bulk ≤ 402 * 40000 := Nat.mul_le_mul (by decide) (by omega)
  rw [sizeLine_eq]
  omega
theorem RepOk.none : RepOk .none 0 0 := ⟨rfl, rfl, Nat.le_refl _, by decide +kernel, rfl, Nat.le_refl _⟩
theorem RepOk.bool (b : Bool) : RepOk (.bool b) 0 0 := ⟨rfl, rfl, Nat.le_refl _, by cases b <;> decide +kernel, rfl, Nat.le_refl _⟩
theorem log2_small {i : Int} (h : i.natAbs < 2 ^ 398) : i.natAbs.log2 < 398 := by
  by_cases z : i.natAbs = 0
  · rw [z]
    decide
  · exact (Nat.log2_lt z).mpr h
theorem RepOk.int {i : Int} (h : i.natAbs < 2 ^ 398) : RepOk (.int i) 0 0 := by
  have l := log2_small h
  refine ⟨?_, rfl, Nat.le_refl _, ?_, rfl, Nat.le_refl _⟩
  · simp only [PyData.showable, decide_eq_true_eq]
    omega
  · have e := int_text_length_le (a := i) (k := 398) (by decide) l
    have e2 : (Str.ofString (toString i)).length = (toString i).length := PySem.ofString_length _
    have e3 : (PyData.int i).shown.length ≤ 400 := by
      show (Str.ofString (toString i)).length ≤ 400
      rw [e2]
      exact Nat.le_trans e (by decide)
    unfold PyData.leavesShort
    exact decide_eq_true e3
theorem RepOk.str {x : Str} {n : Nat} (h : x.length ≤ n) (hc : ∀ c ∈ x.cps.toList, c < 16 ^ 8) (ho : (PyData.str x).canLay0 = true) : RepOk (.str x) 0 n := by
  refine ⟨rfl, rfl, Nat.le_refl _, ?_, ho, h⟩
  simp only [PyData.leavesShort, List.all_eq_true, decide_eq_true_eq]
  exact hc
theorem rep_all {ds : List PyData} {k n : Nat} : (∀ d ∈ ds, RepOk d k n) → PyData.showableAll ds = true ∧ PyData.hasDictAll ds = false ∧ PyData.depthAll ds ≤ k ∧ PyData.leavesShortAll 400 ds = true ∧ PyData.canLayAll0 ds = true ∧ PyData.bulkAll ds ≤ ds.length * (n + 1) := by
  induction ds with
  | nil => intro _; exact ⟨rfl, rfl, Nat.zero_le _, rfl, rfl, Nat.zero_le _⟩
  | cons d r ih =>
    intro h
    obtain ⟨h1, h2, h3, h4, h6, h5⟩ := ih fun x hx => h x (List.mem_cons_of_mem _ hx)
    have q := h d (List.mem_cons_self ..)
    refine ⟨?_, ?_, ?_, ?_, ?_, ?_⟩
    · simp only [PyData.showableAll, q.sh, h1, Bool.and_self]
    · simp only [PyData.hasDictAll, q.nd, h2, Bool.or_self]
    · simp only [PyData.depthAll]
      exact Nat.max_le.mpr ⟨q.dp, h3⟩
    · simp only [PyData.leavesShortAll, q.lv, h4, Bool.and_self]
    · simp only [PyData.canLayAll0, q.cl, h6, Bool.and_self]
    · simp only [PyData.bulkAll, List.length_cons]
      have b := q.bk
      have e : (r.length + 1) * (n + 1) = r.length * (n + 1) + (n + 1) := Nat.succ_mul _ _
      omega
theorem RepOk.list {ds : List PyData} {k n : Nat} (h : ∀ d ∈ ds, RepOk d k n) : RepOk (.list ds) (k + 1) (ds.length * (n + 1)) := by
  obtain ⟨h1, h2, h3, h4, h6, h5⟩ := rep_all h
  exact ⟨by simpa only [PyData.showable] using h1, by simpa only [PyData.hasDict] using h2, by simp only [PyData.depth]; omega, by simpa only [PyData.leavesShort] using h4, by simpa only [PyData.canLay0] using h6, by simpa only [PyData.bulk] using h5⟩
theorem RepOk.tuple {ds : List PyData} {k n : Nat} (h : ∀ d ∈ ds, RepOk d k n) : RepOk (.tuple ds) (k + 1) (ds.length * (n + 1)) := by
  obtain ⟨h1, h2, h3, h4, h6, h5⟩ := rep_all h
  exact ⟨by simpa only [PyData.showable] using h1, by simpa only [PyData.hasDict] using h2, by simp only [PyData.depth]; omega, by simpa only [PyData.leavesShort] using h4, by simpa only [PyData.canLay0] using h6, by simpa only [PyData.bulk] using h5⟩

theorem RepOk.shaped {d : PyData} {k n : Nat} (h : RepOk d k n) (hk : k ≤ 64) : SeqAt.shaped d = true := by
  unfold SeqAt.shaped
  rw [h.cl, Bool.true_and]
  exact decide_eq_true (Nat.le_trans h.dp hk)
/-- repr(x): its text, by the data alone -/
def rRepr2 (K : PySem.W.Frag) : List V → Hp → VK → Prop := fun xs H Q => ∃ v d k n, xs = [v] ∧ Dp K H v d ∧ RepOk d k n ∧ k ≤ 40 ∧ n ≤ 40000 ∧ Q (.str d.shown) H
theorem call_reprD {X : Cx} (hG : X.A.guards = some []) (hu : X.A.units + 64 < cLine) : CallR X (.builtin "repr") (rRepr2 X.K) := by
  intro pins s σ H xs us Q I r h
  obtain ⟨v, d, k, n, e, hd, ok, hk, hn, q⟩ := h
  exact call_repr hG hu pins s σ H xs us Q I r ⟨v, d, e, hd, ok.sh, ok.nd, Nat.le_trans ok.dp hk, ok.fits hn, q⟩

/-! data that is read at one heap is read at each that keeps what is tracked -/
section
variable {K : PySem.W.Frag} {H H1 : Hp}
mutual
theorem dp_same (h : Same H H1) : ∀ (d : PyData) (v : V), Dp K H v d → Dp K H1 v d
  | .none, _, q => by
    cases q
    exact .non
  | .bool b, _, q => by
    cases q
    exact .bl b
  | .int i, _, q => by
    cases q
    exact .int i
  | .str x, _, q => by
    cases q
    exact .str x
  | .list ds, _, q => by
    cases q with
    | lst h1 h2 => exact .lst (same_seqL h h1) (dpAll_same h ds _ h2)
  | .tuple ds, _, q => by
    cases q with
    | tup h1 h2 => exact .tup (same_seqT h h1) (dpAll_same h ds _ h2)
  | .dict _, _, q => nomatch q
theorem dpAll_same (h : Same H H1) : ∀ (ds : List PyData) (vs : List V), DpAll K H vs ds → DpAll K H1 vs ds
  | [], _, q => by
    cases q
    exact .nil
  | d :: ds, _, q => by
    cases q with
    | cons h1 h2 => exact .cons (dp_same h d _ h1) (dpAll_same h ds _ h2)
end
/-- flat things as data -/
theorem dpAll_ints : ∀ ns : List Int, DpAll K H (ns.map V.int) (ns.map PyData.int)
  | [] => .nil
  | n :: r => .cons (.int n) (dpAll_ints r)
theorem dpAll_strs : ∀ ns : List Str, DpAll K H (ns.map V.str) (ns.map PyData.str)
  | [] => .nil
  | n :: r => .cons (.str n) (dpAll_strs r)
theorem DpAll.map {α : Type} {f : α → V} {g : α → PyData} : ∀ {l : List α}, (∀ x ∈ l, Dp K H (f x) (g x)) → DpAll K H (l.map f) (l.map g)
  | [], _ => .nil
  | x :: r, h => .cons (h x (List.mem_cons_self ..)) (DpAll.map fun y hy => h y (List.mem_cons_of_mem _ hy))
end
end RO

namespace RO
open PySem PySem.Spec PyProof.Rows L2

/-! ### short texts -/
def TOk (k : Nat) (t : Str) : Prop := t.length ≤ k ∧ ∀ c ∈ t.cps.toList, c < 128
theorem TOk.mono {k j : Nat} {t : Str} (h : TOk k t) (l : k ≤ j) : TOk j t := ⟨Nat.le_trans h.1 l, h.2⟩
theorem str_len (t : Str) : t.length = t.cps.toList.length := by
  show t.cps.size = _
  simp
theorem cut_ok {k : Nat} {t : Str} (h : TOk k t) (lo hi : Option Int) : TOk k (cutS t lo hi) := by
  refine ⟨?_, fun c hc => ?_⟩
  · have e := str_len (cutS t lo hi)
    have e2 := str_len t
    have l := h.1
    rw [e]
    unfold cutS
    simp only [List.length_take, List.length_drop]
    omega
  · unfold cutS at hc
    simp only at hc
    exact h.2 c (List.mem_of_mem_drop (List.mem_of_mem_take hc))
theorem codes_app (a b : Str) : (a ++ b).cps.toList = a.cps.toList ++ b.cps.toList := by
  show (a.cps ++ b.cps).toList = _
  simp
theorem codes_join0 : ∀ l : List Str, (Str.join (Str.ofString "") l).cps.toList = l.flatMap (·.cps.toList)
  | [] => rfl
  | [x] => by
    show x.cps.toList = _
    simp
  | x :: y :: r => by
    show (x ++ Str.ofString "" ++ Str.join (Str.ofString "") (y :: r)).cps.toList = _
    rw [codes_app, codes_app, codes_join0 (y :: r)]
    have : (Str.ofString "").cps.toList = [] := by decide +kernel
    rw [this, List.append_nil]
    simp only [List.flatMap_cons]
/-- signs put together -/
theorem join_ok {l : List Str} (h : ∀ x ∈ l, TOk 1 x) : TOk l.length (Str.join (Str.ofString "") l) := by
  refine ⟨?_, fun c hc => ?_⟩
  · rw [str_len, codes_join0]
    induction l with
    | nil => exact Nat.le_refl _
    | cons x r ih =>
      have a := (h x (List.mem_cons_self ..)).1
      rw [str_len] at a
      have b := ih fun y hy => h y (List.mem_cons_of_mem _ hy)
      rw [List.flatMap_cons, List.length_append, List.length_cons]
      omega
  · rw [codes_join0] at hc
    obtain ⟨x, hx, hc⟩ := List.mem_flatMap.mp hc
    exact (h x hx).2 c hc
theorem RepOk.tok {k : Nat} {t : Str} (h : TOk k t) : RepOk (.str t) 0 k := by
  refine RepOk.str h.1 (fun c hc => Nat.lt_of_lt_of_le (h.2 c hc) (by decide)) ?_
  simp only [PyData.canLay0, PyData.strOk, ← Array.all_toList, List.all_eq_true, decide_eq_true_eq]
  exact fun c hc => Nat.lt_of_lt_of_le (h.2 c hc) (by decide)

/-! ### rows -/
/-- what a row bears -/
inductive What where
  | order (i : Int)
  | name (t : Str)
  deriving DecidableEq
def What.v : What → V
  | .order i => .int i
  | .name t => .str t
def What.d : What → PyData
  | .order i => .int i
  | .name t => .str t
theorem What.v_inj {a b : What} (h : a.v = b.v) : a = b := by
  cases a <;> cases b <;> simp_all [What.v]
theorem What.dp {K : PySem.W.Frag} {H : Hp} (x : What) : Dp K H x.v x.d := by
  cases x with
  | order i => exact .int i
  | name t => exact .str t
theorem What.rep {x : What} (h : (∃ i : Int, x = .order i ∧ -4 ≤ i ∧ i ≤ 4) ∨ ∃ t, x = .name t ∧ TOk 8 t) : RepOk x.d 0 8 := by
  rcases h with ⟨i, rfl, h1, h2⟩ | ⟨t, rfl, h⟩
  · exact (RepOk.int (by omega)).mono (Nat.le_refl _) (by omega)
  · exact RepOk.tok h
theorem scal_what (x y : What) : scal x.v y.v = true := by cases x <;> cases y <;> rfl
theorem What.flat (x : What) : flatV x.v = true := by cases x <;> rfl
structure Row where
  m : Int
  l : Str
  w : What
def lines6 : List Str := ["port", "star", "down", "aport", "astar", "up"]
def tubes : List Str := ["down", "up"]
/-- a row as DOC asks -/
structure Row.Ok (r : Row) : Prop where
  m0 : 0 ≤ r.m
  m1 : r.m ≤ 99999
  ln : r.l ∈ lines6
  wh : (r.l ∈ tubes ∧ ∃ t, r.w = .name t ∧ TOk 8 t) ∨ (r.l ∉ tubes ∧ ∃ i, r.w = .order i ∧ -4 ≤ i ∧ i ≤ 4)
theorem lines6_ok : ∀ l ∈ lines6, TOk 8 l := by
  intro l h
  have h2 : l = "port" ∨ l = "star" ∨ l = "down" ∨ l = "aport" ∨ l = "astar" ∨ l = "up" := by simpa [lines6] using h
  rcases h2 with rfl | rfl | rfl | rfl | rfl | rfl <;> exact ⟨by decide +kernel, by decide +kernel⟩
def Row.d (r : Row) : PyData := .tuple [.int r.m, .str r.l, r.w.d]
theorem Row.Ok.rep {r : Row} (h : r.Ok) : RepOk r.d 1 27 := by
  refine (RepOk.tuple (k := 0) (n := 8) fun d hd => ?_).mono (Nat.le_refl _) (by show 3 * 9 ≤ 27; omega)
  have z : d = .int r.m ∨ d = .str r.l ∨ d = r.w.d := by simpa using hd
  rcases z with rfl | rfl | rfl
  · exact (RepOk.int (by have := h.m0; have := h.m1; omega)).mono (Nat.le_refl _) (by omega)
  · exact RepOk.tok (lines6_ok _ h.ln)
  · refine What.rep ?_
    rcases h.wh with ⟨_, t, e, q⟩ | ⟨_, i, e, q1, q2⟩
    · exact .inr ⟨t, e, q⟩
    · exact .inl ⟨i, e, q1, q2⟩

/-- the row r stands at a -/
def RowAt (K : PySem.W.Frag) (H : Hp) (a : Addr) (r : Row) : Prop := SqT K H a [.int r.m, .str r.l, r.w.v]
/-- rows at places -/
inductive RowsAt (K : PySem.W.Frag) (H : Hp) : List Addr → List Row → Prop
  | nil : RowsAt K H [] []
  | cons {a : Addr} {r : Row} {as : List Addr} {rs : List Row} : RowAt K H a r → RowsAt K H as rs → RowsAt K H (a :: as) (r :: rs)
/-- the log rs stands at t -/
def LogAt (K : PySem.W.Frag) (H : Hp) (t : Addr) (rs : List Row) : Prop := ∃ as : List Addr, SqT K H t (as.map V.ref) ∧ RowsAt K H as rs
section
variable {K : PySem.W.Frag} {H H1 : Hp} {t a : Addr} {as : List Addr} {rs : List Row} {r : Row}
theorem RowsAt.length (h : RowsAt K H as rs) : as.length = rs.length := by
  induction h with
  | nil => rfl
  | cons _ _ ih => exact congrArg (· + 1) ih
theorem RowsAt.get (h : RowsAt K H as rs) : ∀ {i : Nat} {r : Row}, rs[i]? = some r → ∃ a, as[i]? = some a ∧ RowAt K H a r := by
  induction h with
  | nil => intro i r e; simp at e
  | cons h1 _ ih =>
    intro i r e
    cases i with
    | zero =>
      simp at e
      subst e
      exact ⟨_, rfl, h1⟩
    | succ i => exact ih (by simpa using e)
theorem RowsAt.get' (h : RowsAt K H as rs) : ∀ {i : Nat} {a : Addr}, as[i]? = some a → ∃ r, rs[i]? = some r ∧ RowAt K H a r := by
  induction h with
  | nil => intro i r e; simp at e
  | cons h1 _ ih =>
    intro i r e
    cases i with
    | zero =>
      simp at e
      subst e
      exact ⟨_, rfl, h1⟩
    | succ i => exact ih (by simpa using e)
theorem RowsAt.snoc (h : RowsAt K H as rs) (h1 : RowAt K H a r) : RowsAt K H (as ++ [a]) (rs ++ [r]) := by
  induction h with
  | nil => exact .cons h1 .nil
  | cons h2 _ ih => exact .cons h2 ih
theorem RowsAt.imp (h : RowsAt K H as rs) (f : ∀ a r, RowAt K H a r → RowAt K H1 a r) : RowsAt K H1 as rs := by
  induction h with
  | nil => exact .nil
  | cons h2 _ ih => exact .cons (f _ _ h2) ih
theorem RowsAt.same (h : RowsAt K H as rs) (s : Same H H1) : RowsAt K H1 as rs := h.imp fun _ _ q => same_seqT s q
theorem seqT_lst {p : Addr} {xs ys : List V} (h : SqT K H a xs) (hp : H p = some (.lst ys)) (b : But p H H1) : SqT K H1 a xs := by
  rcases h with h | h
  · have n : a ≠ p := by
      rcases h with h | ⟨o, h⟩
      · exact ne_of h hp (by intro z; cases z)
      · exact ne_of h hp (by intro z; cases z)
    exact .inl (b.rd n h)
  · exact .inr h
theorem seqT_go {p c : Addr} {n : Nat} {xs : List V} (h : SqT K H a xs) (hp : PenAt H p c n) (b : But p H H1) : SqT K H1 a xs := by
  obtain ⟨_, _, e, _⟩ := hp
  exact seqT_lst h e b
theorem RowsAt.lst {p : Addr} {ys : List V} (h : RowsAt K H as rs) (hp : H p = some (.lst ys)) (b : But p H H1) : RowsAt K H1 as rs := h.imp fun _ _ q => seqT_lst q hp b
theorem RowsAt.go {p c : Addr} {n : Nat} (h : RowsAt K H as rs) (hp : PenAt H p c n) (b : But p H H1) : RowsAt K H1 as rs := by
  obtain ⟨_, _, e, _⟩ := hp
  exact h.lst e b
theorem LogAt.go {p c : Addr} {n : Nat} (h : LogAt K H t rs) (hp : PenAt H p c n) (b : But p H H1) : LogAt K H1 t rs := by
  obtain ⟨as, h1, h2⟩ := h
  obtain ⟨_, _, e, _⟩ := id hp
  exact ⟨as, seqT_lst h1 e b, h2.go hp b⟩
theorem RowsAt.take (h : RowsAt K H as rs) (n : Nat) : RowsAt K H (as.take n) (rs.take n) := by
  induction h generalizing n with
  | nil => simp; exact .nil
  | cons h2 _ ih =>
    cases n with
    | zero => exact .nil
    | succ n => exact .cons h2 (ih n)
theorem RowsAt.drop (h : RowsAt K H as rs) (n : Nat) : RowsAt K H (as.drop n) (rs.drop n) := by
  induction h generalizing n with
  | nil => simp; exact .nil
  | cons h2 h3 ih =>
    cases n with
    | zero => exact .cons h2 h3
    | succ n => exact ih n
theorem LogAt.same (h : LogAt K H t rs) (s : Same H H1) : LogAt K H1 t rs := by
  obtain ⟨as, h1, h2⟩ := h
  exact ⟨as, same_seqT s h1, h2.same s⟩
theorem RowAt.dp (h : RowAt K H a r) : Dp K H (.ref a) r.d := .tup h (.cons (.int _) (.cons (.str _) (.cons r.w.dp .nil)))
theorem RowsAt.dp (h : RowsAt K H as rs) : DpAll K H (as.map V.ref) (rs.map Row.d) := by
  induction h with
  | nil => exact .nil
  | cons h2 _ ih => exact .cons h2.dp ih
theorem LogAt.dp (h : LogAt K H t rs) : Dp K H (.ref t) (.tuple (rs.map Row.d)) := by
  obtain ⟨as, h1, h2⟩ := h
  exact .tup h1 h2.dp
theorem log_rep (h : ∀ r ∈ rs, r.Ok) (l : rs.length ≤ 41) : RepOk (.tuple (rs.map Row.d)) 2 1148 := by
  refine (RepOk.tuple (k := 1) (n := 27) fun d hd => ?_).mono (Nat.le_refl _) ?_
  · obtain ⟨r, hr, rfl⟩ := List.mem_map.mp hd
    exact (h r hr).rep
  · rw [List.length_map]
    omega
end
theorem ints_rep {ns : List Int} {k : Nat} (h : ∀ n ∈ ns, n.natAbs < 2 ^ 398) (l : ns.length ≤ k) : RepOk (.list (ns.map PyData.int)) 1 k := by
  refine (RepOk.list (k := 0) (n := 0) fun d hd => ?_).mono (Nat.le_refl _) ?_
  · obtain ⟨r, hr, rfl⟩ := List.mem_map.mp hd
    exact RepOk.int (h r hr)
  · rw [List.length_map]
    omega
theorem cut_take (xs : List V) (i : Nat) (h : i ≤ xs.length) : cutV xs none (some (i : Int)) = xs.take i := by
  unfold cutV
  rw [HT.sIx_none, HT.sIx_nat, List.drop_zero, Nat.min_eq_left h, Nat.sub_zero]
theorem cut_drop (xs : List V) (i : Nat) : cutV xs (some (i : Int)) none = xs.drop i := by
  unfold cutV
  rw [HT.sIx_none, HT.sIx_nat]
  by_cases h : i ≤ xs.length
  · rw [Nat.min_eq_left h, List.take_of_length_le (by rw [List.length_drop]; exact Nat.le_refl _)]
  · rw [Nat.min_eq_right (by omega), List.drop_length, List.drop_eq_nil_of_le (by omega)]
    simp
theorem cut_not (xs : List V) (i : Nat) (h : i < xs.length) : ¬(HT.sIx xs.length 0 none = 0 ∧ HT.sIx xs.length xs.length (some (i : Int)) = xs.length) := fun z => by
  rw [HT.sIx_nat] at z
  omega
/-! ### the rules that name the written part, with it said: they stand within comprehensions, too -/
section
variable (K : PySem.W.Frag) {X : Cx}
theorem kx_seq (h : X.K = K := by rfl) : IxR X (rIx K) := by
  subst h
  exact ix_seq
theorem kx_list (h : X.K = K := by rfl) : IxR X (rIxL K) := by
  subst h
  exact ix_list
theorem kx_tup (h : X.K = K := by rfl) : IxR X (rIxT K) := by
  subst h
  exact ix_tup
theorem k_slL (h : X.K = K := by rfl) : SlR X (rSlL K) := by
  subst h
  exact sl_list
theorem k_slT (h : X.K = K := by rfl) : SlR X (rSlT K) := by
  subst h
  exact sl_tup
theorem k_slA (h : X.K = K := by rfl) : SlR X (rSlA K) := by
  subst h
  exact sl_tupA
theorem k_in (h : X.K = K := by rfl) : OpR X (compareOp .In) (rIn K false) := by
  subst h
  exact op_in_seq
theorem k_notin (h : X.K = K := by rfl) : OpR X (compareOp .NotIn) (rIn K true) := by
  subst h
  exact op_notIn_seq
def rLen (K : PySem.W.Frag) : List V → Hp → VK → Prop := fun xs H Q => ∃ p ys, xs = [.ref p] ∧ (SqL K H p ys ∨ SqT K H p ys) ∧ Q (.int ys.length) H
theorem k_len (h : X.K = K := by rfl) : CallR X (.builtin "len") (rLen K) := by
  subst h
  exact call_len_seq
theorem k_isi (h : X.K = K := by rfl) : CallR X (.builtin "isinstance") (rIsi K) := by
  subst h
  exact call_isi
theorem k_eqD (hu : X.A.units + 64 < cLine) (h : X.K = K := by rfl) : OpR X (compareOp .Eq) (rEqD K) := by
  subst h
  exact op_eqD hu
theorem k_neD (hu : X.A.units + 64 < cLine) (h : X.K = K := by rfl) : OpR X (compareOp .NotEq) (rNeD K) := by
  subst h
  exact op_neD hu
theorem k_repr (hG : X.A.guards = some []) (hu : X.A.units + 64 < cLine) (h : X.K = K := by rfl) : CallR X (.builtin "repr") (rRepr2 K) := by
  subst h
  exact call_reprD hG hu
def rTupOf (K : PySem.W.Frag) : List V → Hp → VK → Prop := fun xs H Q => ∃ p ys, xs = [.ref p] ∧ ((SqL K H p ys ∧ ∀ l, H l = none → Q (.ref l) (upd H l (.tup ys))) ∨ (SqT K H p ys ∧ Q (.ref p) H))
theorem k_tupOf (h : X.K = K := by rfl) : CallR X (.type "tuple") (rTupOf K) := by
  subst h
  exact call_tuple_of
def rListOf (K : PySem.W.Frag) : List V → Hp → VK → Prop := fun xs H Q => ∃ p ys, xs = [.ref p] ∧ (SqL K H p ys ∨ SqT K H p ys) ∧ ∀ l, H l = none → Q (.ref l) (upd H l (.lst ys))
theorem k_listOf (h : X.K = K := by rfl) : CallR X (.type "list") (rListOf K) := by
  subst h
  exact call_list_of
theorem k_isiT (h : X.K = K := by rfl) : CallR X (.builtin "isinstance") (rIsiT K) := by
  subst h
  exact call_isiT
theorem k_all (hc : X.calm = true) (h : X.K = K := by rfl) : CallR X (.builtin "all") (rAll K) := by
  subst h
  exact cr_all hc
theorem k_any (hc : X.calm = true) (h : X.K = K := by rfl) : CallR X (.builtin "any") (rAny K) := by
  subst h
  exact cr_any hc
theorem k_sorted (h : X.K = K := by rfl) : CallR X (.builtin "sorted") (rSortedI K) := by
  subst h
  exact cr_sortedI
theorem k_catT (h : X.K = K := by rfl) : OpR X (binaryOp .Add) (rCatT K) := by
  subst h
  exact op_catT
theorem k_pgT {es : List Expr} {k : Nat} {t : TGs} {n : Nat} {pos : Pos} (hc : X.calm = true) (h : PGs X es t) (hn : (assignEach es X.env).length = n := by rfl) (hs : (assignEach es X.env).findIdx? (fun p => p.1) = none := by rfl) (hK : X.K = K := by rfl) : PG X (.Tuple es k pos) (gTup K n t) := by
  subst hK
  exact pg_tup hc h hn hs
theorem k_piL {tg l : Expr} {tl : TE} (hl : PE X l tl) (h : X.K = K := by rfl) : PI X tg l (iList K tl) := by
  subst h
  exact pi_list hl
theorem k_piT {tg l : Expr} {tl : TE} (hl : PE X l tl) (h : X.K = K := by rfl) : PI X tg l (iTup K tl) := by
  subst h
  exact pi_tup hl
end
/-! ### lists and tuples alike -/
/-- a list or a tuple is read -/
def SqE (K : PySem.W.Frag) (H : Hp) (a : Addr) (xs : List V) : Prop := SqL K H a xs ∨ SqT K H a xs
def gEither (K : PySem.W.Frag) (n : Nat) (t : TGs) : TG := fun v σ H Q => ∃ a xs, v = .ref a ∧ SqE K H a xs ∧ xs.length = n ∧ t xs σ H Q
/-- x[i], x a list or a tuple -/
def rIxE (K : PySem.W.Frag) : R2 := fun x y H Q => ∃ p xs i v, x = .ref p ∧ y = .int i ∧ SqE K H p xs ∧ atI xs i = some v ∧ Q v H
theorem kx_E (K : PySem.W.Frag) {X : Cx} (hK : X.K = K := by rfl) : IxR X (rIxE K) := by
  subst hK
  rintro value slice pins s σ H x y v u Q I rx ry ⟨p, xs, i, z, e1, e2, hq | hq, e3, q⟩ hs
  · exact ix_list value slice pins s σ H x y v u Q I rx ry ⟨p, xs, i, z, e1, e2, hq, e3, q⟩ hs
  · exact ix_tup value slice pins s σ H x y v u Q I rx ry ⟨p, xs, i, z, e1, e2, hq, e3, q⟩ hs
/-- for x in v, v a name of a list or of a tuple -/
def iEither (K : PySem.W.Frag) (i : Nat) : TI := fun σ H R => ∃ a, σ[i]? = some (some (V.ref a)) ∧ (((∃ xs, SqL K H a xs) ∧ R (Itl K a) H) ∨ ((∃ xs, SqT K H a xs) ∧ R (Itt K a) H))
theorem k_piV (K : PySem.W.Frag) {X : Cx} {tg l : Expr} {i : Nat} (hl : PE X l (tVar i)) (hK : X.K = K := by rfl) : PI X tg l (iEither K i) := by
  subst hK
  constructor
  rintro pins s σ H R I ⟨a, e, ⟨hq, q⟩ | ⟨hq, q⟩⟩
  · exact (pi_list hl).run pins s σ H R I ⟨_, e, a, rfl, hq, q⟩
  · exact (pi_tup hl).run pins s σ H R I ⟨_, e, a, rfl, hq, q⟩
section
variable {X : Cx} {K : PySem.W.Frag} {H H1 : Hp} {a p : Addr} {xs : List V}
theorem SqE.same (h : SqE K H a xs) (s : Same H H1) : SqE K H1 a xs := h.imp (same_seqL s) (same_seqT s)
theorem k_pgE (K : PySem.W.Frag) {es : List Expr} {k : Nat} {t : TGs} {n : Nat} {pos : Pos} (hc : X.calm = true) (h : PGs X es t) (hn : (assignEach es X.env).length = n := by rfl) (hs : (assignEach es X.env).findIdx? (fun p => p.1) = none := by rfl)
    (hK : X.K = K := by rfl) : PG X (.Tuple es k pos) (gEither K n t) := by
  subst hK
  constructor
  rintro pins s σ H v u Q I r ⟨a, xs, e1, hq | hq, hl, hw⟩
  · exact (pg_unl hc h hn hs).run pins s σ H v u Q I r ⟨a, xs, e1, hq, hl, hw⟩
  · exact (pg_tup hc h hn hs).run pins s σ H v u Q I r ⟨a, xs, e1, hq, hl, hw⟩
theorem seqT_ty (h : SqT K H a xs) : TyX K H (.ref a) (.type "tuple") := by
  rcases h with (h | ⟨o, h⟩) | ⟨o, its, n, e, c, _⟩
  · exact .base (.tup h)
  · exact .fTuple h
  · exact .kTuple e c
theorem seqL_ty (h : SqL K H a xs) : TyX K H (.ref a) (.type "list") := by
  rcases h with (h | ⟨o, h⟩) | ⟨o, its, n, e, c, _⟩
  · exact .base (.lst h)
  · exact .base (.frz h)
  · exact .kList e c
end
/-! ### defs with defaults -/
section
variable {P : Program} {w : World} {K : PySem.W.Frag} {mg : Str → Option Value} {base : Heap} {x qual : Str} {params : Arguments} {body : List Stmt} {scope : Scope} {dvs : List V} {f : Addr} {fd : FuncData} {ps : List Str}
theorem FunD_okN {N : List Str} {k : Nat} {sp : Sp} (F : FunD K x qual params body scope dvs [] f fd) (S : FnScope N ps scope) (len : ∀ vs H Q E, sp vs H Q E → vs.length = ps.length)
    (hb : ∀ (cdv : Value) (A : Around) (outer : List Env) (s : Shared) (H : Hp) (vs : List V) (Q : VK) (E : XK), Room k (A.deeper (envOfC qual scope s.heap.objs.size f cdv)) → sp vs H Q E →
      ∃ t, PSs (cxOf CX0 P w K mg base N qual scope f cdv A outer s H E).nox body t ∧ t { nx := fun _ H' => Q .non H', rt := Q } (start N vs) H) : FnOk P w K mg base CX0 (k + 1) f fd ps sp :=
  F.ok S len fun cdv A outer s H vs Q E hr h => by
    obtain ⟨t, h1, h2⟩ := hb cdv A outer s H vs Q E hr h
    exact ⟨t, h1.nox, h2⟩
theorem FunD_mk {oc : Value} {od an : Option Addr} {T : Addr} {kV doc pm cdv ct : Value} {osl : Array (Option Value)} {tc : Value} {td : Option Addr} {its : Array Value} {n : Nat} {tsl : Array (Option Value)}
    (l : K.lookup f = some ⟨oc, od, .func (PySem.W.fnOf x qual params body scope (.ref T) kV doc pm an cdv ct), osl⟩) (c : PySem.W.codeIn K cdv qual = true) (k : PySem.W.keepIn K (.ref f) = true)
    (lt : K.lookup T = some ⟨tc, td, .seq its n, tsl⟩) (v : Vals dvs its.toList) (hd : dvs ≠ []) : FunD K x qual params body scope dvs [] f (PySem.W.fnOf x qual params body scope (.ref T) kV doc pm an cdv ct) :=
  ⟨⟨oc, od, _, kV, doc, pm, an, cdv, ct, osl, rfl, l, c, .inr ⟨hd, T, _, its.toList, n, rfl, lt, by simp, v⟩, .inl rfl⟩, k⟩
/-- keywords, the defaults filling up what lacks -/
theorem FunD_kb (F : FunD K x qual params body scope dvs [] f fd) (hd : dvs ≠ []) (ks : List Str) (g : List Value → List Value → List Value → List Value) (gV : List V → List V → List V → List V)
    (rel : ∀ {vs ds zs : List V} {us its ws : List Value}, Vals vs us → Vals ds its → Vals zs ws → Vals (gV vs ds zs) (g us its ws))
    (h : ∀ (T : Addr) (kV doc pm : Value) (an : Option Addr) (cdv ct : Value) (us its ws : List Value), its.length = dvs.length → (g us its ws).length = ps.length →
      ∃ k, bindArgs (PySem.W.fnOf x qual params body scope (.ref T) kV doc pm an cdv ct) ⟨us, ks.zip ws⟩ = seqItems? (.ref T) >>= k ∧ k (some its.toArray) = pure (ps.zip (g us its ws))) :
    ∃ its : List Value, KBinds K fd ps ks (fun us ws => g us its ws) (fun vs zs => gV vs dvs zs) := by
  obtain ⟨oc, od, dV, kV, doc, pm, an, cdv, ct, osl, e, lk, hcd, hD, _⟩ := F.ex
  subst e
  rcases hD with ⟨e, _⟩ | ⟨_, T, o, its, m, rfl, lT, oT, rT⟩
  · exact absurd e hd
  · refine ⟨its, fun s us ws X hl => ?_, fun r1 r2 => rel r1 rT r2⟩
    obtain ⟨k, e1, e2⟩ := h T kV doc pm an cdv ct us its ws rT.length.symm hl
    refine BindsTo.of_looks fun M => ?_
    rw [e1]
    exact looks_items X lT oT (.of_pure e2)
end
end RO

namespace RO
open PySem PySem.Spec PyProof.Rows L2

/-! ### dicts of at most one pair, as data -/
/-- a number or a text, as data -/
inductive Sc : V → PyData → Prop
  | int (i : Int) : Sc (.int i) (.int i)
  | str (t : Str) : Sc (.str t) (.str t)
/-- data, or a small dict -/
inductive Dq (K : PySem.W.Frag) (H : Hp) : V → PyData → Prop
  | dp {v : V} {d : PyData} {k n : Nat} : Dp K H v d → RepOk d k n → k ≤ 40 → n ≤ 40000 → Dq K H v d
  | d0 {a : Addr} : H a = some (.dK []) → Dq K H (.ref a) (.dict [])
  | d1 {a : Addr} {t : Str} {x : V} {e : PyData} {n : Nat} : H a = some (.dK [(.inr t, x)]) → Sc x e → RepOk e 0 n → n ≤ 1000 → TOk 8 t → Dq K H (.ref a) (.dict [(.str t, e)])
theorem Dq.same {K : PySem.W.Frag} {H H1 : Hp} {v : V} {d : PyData} (h : Dq K H v d) (s : Same H H1) : Dq K H1 v d := by
  cases h with
  | dp h1 h2 h3 h4 => exact .dp (dp_same s _ _ h1) h2 h3 h4
  | d0 e => exact .d0 (s _ _ e)
  | d1 e a b c l => exact .d1 (s _ _ e) a b c l
theorem shown_short {d : PyData} {k n : Nat} (h : RepOk d k n) (hn : n ≤ 1000) : d.shown.length ≤ 402 * 1001 := by
  have e := PyData.shown_le_bulk 400 (by decide) d h.lv
  have b := h.bk
  have : (400 + 2) * d.bulk ≤ 402 * 1000 := Nat.mul_le_mul (by decide) (by omega)
  omega
theorem str_app (a b : Str) : (a ++ b).length = a.length + b.length := by
  rw [str_len, str_len, str_len, codes_app, List.length_append]
/-- repr(x), x data or a small dict -/
def rRepr4 (K : PySem.W.Frag) : List V → Hp → VK → Prop := fun xs H Q => ∃ v d, xs = [v] ∧ Dq K H v d ∧ Q (.str d.shown) H
theorem sys_ne {a : Addr} (h : (a == sysModules) = false) : a ≠ sysModules := fun z => by
  rw [z] at h
  simp at h
theorem call_repr4 {X : Cx} (hG : X.A.guards = some []) (hu : X.A.units + 64 < cLine) : CallR X (.builtin "repr") (rRepr4 X.K) := by
  intro pins s σ H xs us Q I r h
  obtain ⟨v, d, e, hd, q⟩ := h
  cases hd with
  | dp h1 h2 h3 h4 => exact call_reprD hG hu pins s σ H xs us Q I r ⟨v, d, _, _, e, h1, h2, h3, h4, q⟩
  | @d0 a ha =>
    subst e
    rw [Vals.ref1 r]
    have fin : ∀ (h' : Heap) (u : Tok) (tk : Nat), (∀ b o, s.heap.get? b = some o → h'.get? b = some o) → EP X pins σ Q (.str (PyData.dict []).shown u) { s with heap := h', toks := tk } :=
      fun h' u tk hk => ⟨.str (PyData.dict []).shown, H, I.un (Un.kept hk) (I.hok.kept hk), ⟨u, rfl⟩, q⟩
    obtain ⟨_, hs, vs, rel, o, es, ep, ho, hx, hdat, hk, hp, _⟩ := dk_of I.hok ha
    cases rel
    have he : es.toList = [] := by
      have := hp.length
      exact List.eq_nil_of_length_eq_zero this
    have rd : Reads s.heap (.ref a) (.dict []) (a :: [] ++ []) := Reads.dict ho hx.1 hdat (by rw [he]; exact .nil) (by rw [he]; exact .nil)
    exact repr_of_reads' rd (by decide) (fun _ => by simpa using Ne.symm (sys_ne hs)) hG (by show _ + (1 + 1) < _; omega) (fun _ _ z => z) fin (by decide +kernel)
  | @d1 a t x e' n ha hsc hr hn ht =>
    subst e
    rw [Vals.ref1 r]
    have hts := RepOk.tok ht
    have hsh : (PyData.dict [(.str t, e')]).showable = true := by
      simp [PyData.showable, PyData.showableKv, hr.sh]
    have hdp : (PyData.dict [(.str t, e')]).depth ≤ 1 := by
      have := hr.dp
      simp [PyData.depth, PyData.depthKv]
      omega
    have hlen : (PyData.dict [(.str t, e')]).shown.length ≤ sizeLine := by
      have l1 := shown_short hr hn
      have l2 := shown_short hts (by decide)
      rw [PyData.shown_dict]
      simp only [PyData.shownKv, Str.join]
      simp only [str_app]
      have c1 : ("{" : Str).length = 1 := by decide +kernel
      have c2 : ("}" : Str).length = 1 := by decide +kernel
      have c3 : (": " : Str).length = 2 := by decide +kernel
      rw [c1, c2, c3, sizeLine_eq]
      omega
    have fin : ∀ (h' : Heap) (u : Tok) (tk : Nat), (∀ b o, s.heap.get? b = some o → h'.get? b = some o) → EP X pins σ Q (.str (PyData.dict [(.str t, e')]).shown u) { s with heap := h', toks := tk } :=
      fun h' u tk hk => ⟨.str (PyData.dict [(.str t, e')]).shown, H, I.un (Un.kept hk) (I.hok.kept hk), ⟨u, rfl⟩, q⟩
    obtain ⟨_, hs, vs, rel, o, es, ep, ho, hx, hdat, hk, hp, _⟩ := dk_of I.hok ha
    cases rel with
    | @cons _ qv _ _ r1 r2 =>
      cases r2
      obtain ⟨er, rx⟩ := r1
      generalize hes : es.toList = el at hp
      cases hp with
      | @cons en _ _ _ p1 p2 p3 =>
        cases p3
        obtain ⟨_, _, z, _⟩ | ⟨y, tk, z, ek⟩ := keyIs_shape p1
        · rw [← er] at z
          cases z
        · rw [← er] at z
          cases z
          have rv : Reads s.heap en.val e' [] := by
            rw [p2]
            cases hsc with
            | int i =>
              obtain ⟨tt, ee⟩ := (show ∃ tt, qv.2 = Value.int i tt from rx)
              rw [ee]
              exact .int i tt
            | str y =>
              obtain ⟨tt, ee⟩ := (show ∃ tt, qv.2 = Value.str y tt from rx)
              rw [ee]
              exact .str y tt
          have rk : Reads s.heap en.key (.str t) [] := by
            rw [ek]
            exact .str t tk
          have rd : Reads s.heap (.ref a) (.dict [(.str t, e')]) (a :: ([] ++ []) ++ ([] ++ [])) := Reads.dict ho hx.1 hdat (by rw [hes]; exact .cons rk .nil) (by rw [hes]; exact .cons rv .nil)
          exact repr_of_reads' rd hsh (fun _ => by simpa using Ne.symm (sys_ne hs)) hG (by omega) (fun _ _ z => z) fin hlen
/-! ### texts of numbers, letters -/
theorem int_tok {i : Int} {k : Nat} (h : i.natAbs < 2 ^ k) (hk : 0 < k) : TOk (k + 1) (toString i : String) := by
  refine ⟨?_, fun c hc => ?_⟩
  · have l : i.natAbs.log2 < k := by
      by_cases z : i.natAbs = 0
      · rw [z]
        have : Nat.log2 0 = 0 := by decide
        omega
      · exact (Nat.log2_lt z).mpr h
    have e := int_text_length_le (a := i) hk l
    have e2 : (Str.ofString (toString i)).length = (toString i).length := PySem.ofString_length _
    show (Str.ofString (toString i)).length ≤ k + 1
    omega
  · by_cases z : c ≠ 45 ∧ (c < 48 ∨ 57 < c)
    · exact absurd hc (int_text_free' c z i)
    · omega
def rStrOf : List V → Hp → VK → Prop := fun xs H Q => (∃ i, xs = [.int i] ∧ i.natAbs.log2 < 1920 ∧ Q (.str (toString i : String)) H) ∨ ∃ a, xs = [.str a] ∧ Q (.str a) H
theorem k_strOf {X : Cx} : CallR X (.type "str") rStrOf := by
  rintro pins s σ H xs us Q I r (h | h)
  · exact call_str_int pins s σ H xs us Q I r h
  · exact SkE.call_str_str pins s σ H xs us Q I r h
theorem k_repr4 (K : PySem.W.Frag) {X : Cx} (hG : X.A.guards = some []) (hu : X.A.units + 64 < cLine) (h : X.K = K := by rfl) : CallR X (.builtin "repr") (rRepr4 K) := by
  subst h
  exact call_repr4 hG hu
def CPowW (i j : Int) : Prop := 0 ≤ j ∧ ((Builtin.Int.intBits i : Nat) : Int) * j ≤ 134217728
theorem op_powW {X : Cx} : OpR X (binaryOp .Pow) (rI CPowW fun i j => .int (i ^ j.toNat)) := opI fun _ _ _ _ _ _ _ hc q => pow_int hc.1 hc.2 q
def letter (c : Nat) : Bool := decide (97 ≤ c) && decide (c ≤ 122)
theorem letter_not : ∀ c, c < 128 → (!(!(Builtin.Str.occurrences (Str.ofString "abcdefghijklmnopqrstuvwxyz") ⟨#[c]⟩ 0 (Str.ofString "abcdefghijklmnopqrstuvwxyz").length 1).isEmpty)) = !letter c := by decide +kernel
end RO

namespace RO
open PySem PySem.Spec PyProof.Rows L2

/-! ### set(xs), xs a list of numbers -/
/-- an empty set's object -/
def emptySet (w : World) : Obj := { cls := .type "set", dict := none, data := .set #[] 0 (.fresh 0 0 (!w.params.followText "set-order")) }
section
variable {P : Program} {w : World} {A : Around} {E : Value → Shared → Prop} {s : Shared}
/-- set(v): the empty set, and what its start makes of it -/
theorem set_call {v : Value} {Q : Value → Shared → Prop} {G : Shared → Prop}
    (start : wpAny (model P w) A.in1.in1 (Builtin.«set.__init__» ⟨[.ref s.heap.objs.size, v], []⟩)
      (fun fin s' => match fin with
        | .done f => wants (fun r s₂ => r = .none ∧ G s₂) E (.ok f) s'
        | .again c' => c'.quiet = true ∧ codeAny (model P w) A.in1 c' (wants (fun r s₂ => r = .none ∧ G s₂) E) s')
      (fun e s' => wants (fun r s₂ => r = .none ∧ G s₂) E (.error e) s') { s with heap := s.heap.push (emptySet w) })
    (fin : ∀ s', G s' → Q (.ref s.heap.objs.size) s') : wpAny (model P w) A (call (.type "set") [v]) Q E s := by
  have lk := F.called_set.init.lookup
  have bd := F.called_set.init.bind (.ref s.heap.objs.size)
  have nt := F.called_set.notType
  have cc := F.called_set.canCreate
  have tc := F.typeCall_set_1 v
  have md := F.called_set.made
  have sb := F.called_set.sub
  obtain ⟨c, tl, mro⟩ := F.called_set.mro
  refine wpAny_call (codeAny_of_tree ?_)
  show wpAny _ _ (callAny (.type "set") _) _ _ _
  refine wpAny_pure ⟨Code.quiet_builtin _ (by decide +kernel), codeAny_builtin F.entry_type_call ?_⟩
  rw [Around.under_plain (weight_type_call_type "set" [v] []) rfl]
  repeat (any_goals (first | assumption | wp_step))
  refine codeAny_mono (code_set_led1 v (E := E) (Q₁ := fun obj t => obj = .ref s.heap.objs.size ∧ t = { s with heap := s.heap.push (emptySet w) }) ⟨rfl, rfl⟩) fun r t hr => ?_
  cases r with
  | error e => exact hr
  | ok fl =>
    cases fl with
    | ret obj =>
      obtain ⟨rfl, rfl⟩ := hr
      have ty : Shared.TypeIs { s with heap := s.heap.push (emptySet w) } (.ref s.heap.objs.size) "set" := ⟨_, Heap.get?_push_size _ rfl, rfl⟩
      repeat (any_goals (first | assumption | wp_step))
      refine codeAny_mono (codeAny_call_builtin F.called_set.init.plain F.entry_set_init (check_set_init_1 ty start)) fun r2 t2 h2 => ?_
      cases r2 with
      | error e => exact h2
      | ok fl2 =>
        cases fl2 with
        | ret z =>
          obtain ⟨rfl, g⟩ := h2
          have q := fin _ g
          repeat (any_goals (first | assumption | wp_step))
        | _ => exact h2.elim
    | _ => exact hr.elim
/-- of a list of numbers -/
theorem set_ints {l : Addr} {items : Array Value} {ns : List Int} {Q : Value → Shared → Prop} (hh : A.handled = none) (hl : s.heap.IsList l items) (hit : IntsAre items.toList ns) (hb : ns.length + 1 < scanBound)
    (h : ∀ (h' : Heap) (tk n : Nat), SetR w h' s.heap.objs.size (fun j => decide (j ∈ ns)) n → n ≤ ns.length → (∀ b o, s.heap.get? b = some o → h'.get? b = some o) → Q (.ref s.heap.objs.size) { s with heap := h', toks := tk }) :
    wpAny (model P w) A (call (.type "set") [.ref l]) Q E s := by
  have size : items.size = ns.length := by
    rw [← Array.length_toList]
    exact IntsAre.length hit
  have vals : ∀ (i : Nat) (v : Value), items[i]? = some v → ∃ k t, ns[i]? = some k ∧ v = .int k t := fun i v hv => by
    have lt : i < ns.length := size ▸ (Array.getElem?_eq_some_iff.mp hv).1
    obtain ⟨t, e⟩ := IntsAre.int_at hit i v (by rw [Array.getElem?_toList]; exact hv)
    refine ⟨ns[i], t, List.getElem?_eq_getElem lt, ?_⟩
    rw [e, List.getD_eq_getElem?_getD, List.getElem?_eq_getElem lt]
    rfl
  refine set_call (G := fun s2 => ∃ h' tk n, s2 = { s with heap := h', toks := tk } ∧ SetR w h' s.heap.objs.size (fun j => decide (j ∈ ns)) n ∧ n ≤ ns.length ∧ ∀ b o, s.heap.get? b = some o → h'.get? b = some o) ?_ ?_
  · have l1 : (s.heap.push (emptySet w)).IsList l items := hl.push _
    have lS : l < s.heap.objs.size := by
      obtain ⟨_, e, _⟩ := hl
      exact Heap.lt_size e
    have z1 : (s.heap.push (emptySet w)).objs.size = s.heap.objs.size + 1 := Heap.size_push ..
    obtain ⟨⟨oc, od, odt, osl⟩, hol, hcl, nl, hdl⟩ := id l1
    simp only at hcl hdl
    subst hcl hdl
    have n1 := F.sub_list_set
    have n2 := F.sub_list_frozenset
    have n3 : (Value.type "list" == Value.type "dict") = false := by decide
    unfold Builtin.«set.__init__» noKeywords Builtin.Frozenset.updateFrom
    generalize hPI : pyIter = PI
    wp_walk
    subst hPI
    refine wpAny_pyIter_list l1 ?_
    refine wpAny_bind (wpAny_runValue ?_)
    have apart : l ≠ (s.heap.push (emptySet w)).objs.size := by
      rw [z1]
      exact Nat.ne_of_lt (Nat.lt_succ_of_lt lS)
    have S0 : (s.heap.push (emptySet w)).get? s.heap.objs.size = some (emptySet w) := Heap.get?_push_size _ rfl
    have out : s.heap.objs.size ∉ [(s.heap.push (emptySet w)).objs.size, l] := by
      simp only [List.mem_cons, List.not_mem_nil, or_false, not_or]
      exact ⟨by rw [z1]; exact Nat.ne_of_lt (Nat.lt_succ_self _), Nat.ne_of_gt lS⟩
    refine set_update_ints ((Walks.list (by simp [hh]) _ l apart items).toS) s.heap.objs.size out ns size hb vals (items.size - 0) 0 _ (by omega) (Nat.zero_le _)
      ⟨⟨_, Heap.get?_push_size _ rfl, rfl, rfl⟩, l1.push _⟩ ⟨0, Nat.le_refl 0, setR_new_at (Heap.get?_push_of_some _ S0)⟩ fun s3 n mv hn R => ?_
    obtain ⟨h', g', d', tk', o'⟩ := s3
    have e1 : g' = s.gens := mv.gens
    have e2 : d' = s.drawn := mv.drawn
    have e3 : o' = s.os := mv.os
    subst e1 e2 e3
    refine wpAny_pure (wpAny_pure ⟨rfl, h', tk', n, rfl, R, by omega, fun b o e => ?_⟩)
    have lt := Heap.lt_size e
    exact mv.heap b o (by simp only [List.mem_cons, List.not_mem_nil, or_false, not_or]; exact ⟨Nat.ne_of_lt lt, by rw [z1]; exact Nat.ne_of_lt (Nat.lt_succ_of_lt lt)⟩) (Heap.get?_push_of_some _ (Heap.get?_push_of_some _ e))
  · rintro s2 ⟨h', tk, n, rfl, R, hn, keep⟩
    exact h h' tk n R hn keep
end
section
variable {X : Cx}
/-- set(xs) by values -/
def rSetI (K : PySem.W.Frag) (w : World) : List V → Hp → VK → Prop := fun vs H Q => ∃ (a : Addr) (ns : List Int), vs = [V.ref a] ∧ SqL K H a (ns.map V.int) ∧ ns.length ≤ 1000 ∧
  ∀ p n, H p = none → n ≤ ns.length → Q (.ref p) (upd H p (SetO w p (fun j => decide (j ∈ ns)) n))
theorem cr_setI (hc : X.calm = true) : CallR X (.type "set") (rSetI X.K X.w) := by
  intro pins s σ H vs us Q I r h
  obtain ⟨a, ns, rfl, hs, hl, q⟩ := h
  obtain ⟨its, rv, p, hz⟩ := I.list hs
  rw [Vals.ref1 r]
  have lim : ns.length + 1 < scanBound := Nat.lt_of_le_of_lt (Nat.succ_le_succ hl) (by decide)
  refine set_ints (I.ok.hd hc) p.isList rv.ints lim fun h' tk n R hn keep => ?_
  have fresh : H s.heap.objs.size = none := I.hok.fresh (Nat.le_refl _)
  exact ⟨.ref _, _, I.laid (t' := tk) keep (Nat.le_refl _) (setO_new R), rfl, q _ n fresh hn⟩
end
end RO

namespace RO
open PySem PySem.Spec PyProof.Rows L2 PpSet

/-! ### {k for x in xs if ..}, k a number -/
section
variable {X : Cx}
/-- one turn's end: k joins the set at D -/
def Joins (w : World) (D : Addr) (Nx : Hp → Prop) : VK := fun y H => ∃ (k : Int) (S : Int → Bool) (n : Nat), y = .int k ∧ H D = some (SetO w D S n) ∧ n + 1 < scanBound ∧ Nx (upd H D (SetO w D (fun j => S j || decide (j = k)) (if S k = true then n else n + 1)))
def tScI (w : World) (wi : TI) (g : TG) (tt : TT) (te : TE) (vs : List Nat) : TE := fun σ H Q => wi σ H fun J H1 => ∀ D, H1 D = none → ∃ W : Nat → Nat → Hp → Prop, (∃ m, W 0 m (upd H1 D (SetO w D (fun _ => false) 0))) ∧ ∀ i m H, W i m H →
  (J.stop i H ∧ Q (.ref D) H) ∨ (J.go i H ∧ ∃ Nx : Hp → Prop, (∀ H', Nx H' → ∃ m', m' < m ∧ W (i + 1) m' H') ∧ ∀ x H', J.yld i H x H' → g x (wipe σ vs) H' fun σ2 H2 => wipe σ2 vs = wipe σ vs ∧ tt σ2 H2 fun b H3 =>
    if b = true then te σ2 H3 (Joins w D Nx) else Nx H3)
theorem pe_scI {elt tg iter : Expr} {ifs : List Expr} {scope : Scope} {own : List (PySem.Str × Nat)} {pos : Pos} {wi : TI} {g : TG} {tt : TT} {te : TE} (hc : X.calm = true) (hN : X.N.Nodup) (hi : PI X tg iter wi) (ok : BlkOk X.N X.env.scope scope own)
    (hg : ∀ (s : Shared) (H : Hp) (C : Addr) (cl : List (PySem.Str × Addr)) (fp : List Addr), PG (X.blk s H scope (compEnvC scope cl C X.env) fp) tg g)
    (ht : ∀ (s : Shared) (H : Hp) (C : Addr) (cl : List (PySem.Str × Addr)) (fp : List Addr), PTs (X.blk s H scope (compEnvC scope cl C X.env) fp) ifs tt)
    (he : ∀ (s : Shared) (H : Hp) (C : Addr) (cl : List (PySem.Str × Addr)) (fp : List Addr), PE (X.blk s H scope (compEnvC scope cl C X.env) fp) elt te) (hs : ∀ x, foldedSetIterable iter X.env x = pure x := by intro _; rfl) :
    PE X (.SetComp elt [⟨tg, iter, ifs, 0⟩] scope pos) (tScI X.w wi g tt te (own.map (·.2))) := by
  constructor
  intro pins s σ H Q I h
  rw [eval_SetComp]
  have cells : ∀ y ∈ scope.names, y.2 = .free → ∃ c, X.env.cells.lookup y.1 = some c := fun y hy e =>
    (ok.free y hy e).elim (fun k => I.ok.has _ (.inl k)) fun k => I.ok.has _ (.inr k)
  apply wpAny_comprehension_free (use := none) rfl hs (closure_ok cells) ok.kind (fun y hy e => by rw [ok.uniq y hy, e])
  apply thn (hi.run pins s σ H _ I h)
  intro xv s1 hx
  apply thn hx
  rintro _ s2 ⟨it, fp, tn, J, H2, rfl, I2, T, at2, free2, q⟩
  apply newSet_ok
  apply newEnv_comp
  have below : ∀ b ∈ fp, b < s2.heap.objs.size := fun b hb => (T.obj _ _ at2 b hb).elim fun o e => Heap.lt_size e.1
  have fresh : H2 s2.heap.objs.size = none := I2.hok.fresh (Nat.le_refl _)
  obtain ⟨W, ⟨m0, start⟩, turn⟩ := q _ fresh
  have I3 : Inv X pins σ (upd H2 s2.heap.objs.size (SetO X.w s2.heap.objs.size (fun _ => false) 0)) { s2 with heap := s2.heap.push (emptySet X.w) } :=
    I2.laid (t' := s2.toks) (fun _ _ e => Heap.get?_push_of_some _ e) (Nat.le_refl _) (setO_new (setR_fresh X.w))
  have at3 : tn 0 (s2.heap.push (emptySet X.w)) := T.keep _ _ _ at2 fun _ _ _ e => Heap.get?_push_of_some _ e
  have ok3 : ∀ b ∈ fp, FpOk X pins (upd H2 s2.heap.objs.size (SetO X.w s2.heap.objs.size (fun _ => false) 0)) b ∧ b < (s2.heap.push (emptySet X.w)).objs.size := fun b hb =>
    ⟨⟨by rw [upd_ne (Nat.ne_of_lt (below b hb))]; exact (free2 b hb).1, (free2 b hb).2⟩, by rw [Heap.size_push]; exact Nat.lt_succ_of_lt (below b hb)⟩
  generalize s2.heap.objs.size = D at *
  generalize upd H2 D (SetO X.w D (fun _ => false) 0) = H3 at *
  suffices key : ∀ s3 : Shared, s3 = { s2 with heap := s2.heap.push (emptySet X.w) } →
      codeAny (model X.prog X.w) X.A (.compStart (.SetComp elt [⟨tg, iter, ifs, 0⟩] scope pos) 0 (.ref it) (.ref D) (compEnvC scope (cellsFrom (s3.heap.objs.size + 1) scope.names (cloFrom X.env.cells scope.names [])) s3.heap.objs.size X.env))
        (compPost (model X.prog X.w) X.A X.xe none (EP X pins σ Q) (.ref D) s3.heap.objs.size) { s3 with heap := pushCells (s3.heap.push { cls := .type "dict", data := .dict #[] }) scope.names } from key _ rfl
  intro s3 es3
  have eh : s3.heap = s2.heap.push (emptySet X.w) := by rw [es3]
  rw [← eh] at at3 ok3
  rw [← es3] at I3
  have I4 := block_start I3 ok hN ok3
  have pg := hg s3 H3 s3.heap.objs.size (cellsFrom (s3.heap.objs.size + 1) scope.names (cloFrom X.env.cells scope.names [])) fp
  have pt := ht s3 H3 s3.heap.objs.size (cellsFrom (s3.heap.objs.size + 1) scope.names (cloFrom X.env.cells scope.names [])) fp
  have pe := he s3 H3 s3.heap.objs.size (cellsFrom (s3.heap.objs.size + 1) scope.names (cloFrom X.env.cells scope.names [])) fp
  have locals : (compEnvC scope (cellsFrom (s3.heap.objs.size + 1) scope.names (cloFrom X.env.cells scope.names [])) s3.heap.objs.size X.env).locals = s3.heap.objs.size := rfl
  generalize compEnvC scope (cellsFrom (s3.heap.objs.size + 1) scope.names (cloFrom X.env.cells scope.names [])) s3.heap.objs.size X.env = ce at *
  have at4 : tn 0 ({ s3 with heap := pushCells (s3.heap.push { cls := .type "dict", data := .dict #[] }) scope.names } : Shared).heap := T.keep _ _ _ at3 fun b _ o e => pushCells_keeps _ _ _ _ (Heap.get?_push_of_some _ e)
  generalize ({ s3 with heap := pushCells (s3.heap.push { cls := .type "dict", data := .dict #[] }) scope.names } : Shared) = s4 at *
  let B := X.blk s3 H3 scope ce fp
  have stay : ∀ (σ' : L2.St) (H' : Hp) (s' : Shared), Inv B [] σ' H' s' → (∀ b ∈ fp, H' b = none) → ∀ b ∈ fp, FpOk B [] H' b := fun σ' H' s' J' free b hb =>
    ⟨free b hb, (J'.ok.exf b hb).1, J'.ok.exfs b hb, .inl hb, (J'.ok.exf b hb).2, fun p hp => nomatch (show p ∈ ([] : List (Addr × Obj)) from hp)⟩
  have loop : codeAny (model X.prog X.w) X.A (.compLoop (.SetComp elt [⟨tg, iter, ifs, 0⟩] scope pos) 0 (.ref it) (.ref D) ce) (compPost (model X.prog X.w) X.A X.xe none (EP X pins σ Q) (.ref D) s3.heap.objs.size) s4 := by
    refine compLoopS_any (fun n s' => ∃ i H', Inv B [] (wipe σ (own.map (·.2))) H' s' ∧ tn i s'.heap ∧ (∀ b ∈ fp, H' b = none) ∧ W i n H') ?_ m0 ⟨0, H3, I4, at4, fun b hb => (ok3 b hb).1.1, start⟩
    rintro n s5 ⟨i, H5, I5, at5, free5, w5⟩
    rcases turn i n H5 w5 with ⟨stop, fin⟩ | ⟨go, Nx, less, step⟩
    · apply thnF (T.done B rfl rfl rfl hc i [] s5 _ H5 (fun _ _ => False) I5 (stay _ _ _ I5 free5) at5 stop)
      rintro r s6 ⟨rfl, I6⟩
      have back : Inv X pins σ H5 s6 := I3.call' (ch := fp) I6.os I6.base I6.hok I6.bare fun b hb => ⟨(ok3 b hb).1.2.2.2.1, (ok3 b hb).1.2.1, (ok3 b hb).1.2.2.2.2.1, (ok3 b hb).1.2.2.2.2.2⟩
      have free : H5 s3.heap.objs.size = none := locals ▸ (show H5 ce.locals = none from I6.free)
      obtain ⟨m, hn, _⟩ := I6.loc
      have hn : s6.heap.Ns s3.heap.objs.size m := locals ▸ (show s6.heap.Ns ce.locals m from hn)
      obtain ⟨f0, f1, f2, f3, f4, f5⟩ := I3.fpOk (Nat.le_refl _) free
      exact ⟨m, hn, fun h'' sb => ⟨.ref D, H5, back.turned (t' := s6.toks) (fun b o hb e => (sb.2 b hb).trans e) f0 f1 f3 f4 f5, rfl, fin⟩⟩
    · apply thnF (T.item B rfl rfl rfl hc i [] s5 _ H5 (fun _ _ => False) I5 (stay _ _ _ I5 free5) at5 go)
      rintro r s6 ⟨u, rfl, h6⟩
      apply thnF h6
      rintro _ s7 ⟨x, H7, I7, r7, y7, at7, free7⟩
      apply thnF (pg.run _ s7 _ H7 x u _ (I7.pinned (stay _ _ _ I7 free7) (T.obj _ _ at7)) r7 (step x H7 y7))
      rintro _ s8 ⟨σ8, H8, I8, wiped, q8⟩
      apply thnF (pt.run _ s8 σ8 H8 _ I8 q8)
      rintro b s9 ⟨H9, I9, q9⟩
      have next : ∀ (s' : Shared) (H' : Hp), Inv B ([] ++ pinsAt fp s7.heap) σ8 H' s' → Nx H' → ∃ m, m < n ∧ ∃ i H', Inv B [] (wipe σ (own.map (·.2))) H' s' ∧ tn i s'.heap ∧ (∀ b ∈ fp, H' b = none) ∧ W i m H' := fun s' H' J' nx => by
        obtain ⟨m', lt, w'⟩ := less H' nx
        have pin : ∀ b ∈ fp, ∀ o, s7.heap.get? b = some o → s'.heap.get? b = some o ∧ H' b = none := fun b hb o e =>
          have z := J'.pin (b, o) (List.mem_append_right _ (List.mem_append_right _ (mem_pinsAt hb e)))
          ⟨z.1, z.2.1⟩
        refine ⟨m', lt, i + 1, H', (J'.unpinned (pins := [])).weak (by rw [← wiped, wipe_length]) (fun j v e => ?_), T.keep _ _ _ at7 fun b hb o e => (pin b hb o e).1, fun b hb => ?_, w'⟩
        · rw [← wiped] at e
          exact (wipe_some e).1
        · obtain ⟨o, e, _⟩ := T.obj _ _ at7 b hb
          exact (pin b hb o e).2
      cases b with
      | false => exact next s9 H9 I9 q9
      | true =>
        apply thnF (pe.run _ s9 σ8 H9 _ I9 q9)
        rintro z s10 ⟨yv, H10, I10, r10, k, S, c, rfl, hD, room, nx⟩
        apply thnF (mt_sadd (X := B) _ s10 σ8 H10 (.ref D) [.int k] (.ref D) [z] (fun _ H' => Nx H') I10 rfl (.cons r10 .nil) ⟨D, k, S, c, rfl, rfl, hD, room, nx⟩)
        rintro _ s11 ⟨_, H11, I11, _, nx⟩
        exact next s11 H11 I11 nx
  exact codeAny_compStart_set loop (T.self X.A 0 _ _ _ at4 loop)
end
end RO

namespace RO
open PySem PySem.Spec PyProof.Rows L2
section
variable {J : It} {n : Nat} {G : Hp → Prop} {Y : Nat → Hp → V → Hp → Prop}
/-- a set's comprehension over what is walked: Pv by the turn and the heap -/
theorem sc_it {ww : World} (wk : Walk J n G Y) {g : TG} {tt : TT} {te : TE} {vs : List Nat} {σ : L2.St} {H1 : Hp} {D : Addr} {Qd : Hp → Prop} (Pv : Nat → Hp → Prop) (h0 : Pv 0 (upd H1 D (SetO ww D (fun _ => false) 0))) (hG : ∀ i H, i ≤ n → Pv i H → G H)
    (hs : ∀ i x H H', i < n → Pv i H → Y i H x H' → g x (wipe σ vs) H' fun σ2 H2 => wipe σ2 vs = wipe σ vs ∧ tt σ2 H2 fun b H3 => if b = true then te σ2 H3 (Joins ww D (Pv (i + 1))) else Pv (i + 1) H3) (hd : ∀ H, Pv n H → Qd H) :
    ∃ W : Nat → Nat → Hp → Prop, (∃ m, W 0 m (upd H1 D (SetO ww D (fun _ => false) 0))) ∧ ∀ i m H, W i m H →
      (J.stop i H ∧ Qd H) ∨ (J.go i H ∧ ∃ Nx : Hp → Prop, (∀ H', Nx H' → ∃ m', m' < m ∧ W (i + 1) m' H') ∧ ∀ x H', J.yld i H x H' → g x (wipe σ vs) H' fun σ2 H2 => wipe σ2 vs = wipe σ vs ∧ tt σ2 H2 fun b H3 =>
        if b = true then te σ2 H3 (Joins ww D Nx) else Nx H3) := by
  refine ⟨fun i m H => m = n - i ∧ i ≤ n ∧ Pv i H, ⟨n, by simp, Nat.zero_le _, h0⟩, ?_⟩
  rintro i m H ⟨rfl, le, p⟩
  have q := hG i H le p
  rcases Nat.lt_or_ge i n with lt | ge
  · exact .inr ⟨wk.goes i H lt q, Pv (i + 1), fun H' p' => ⟨n - (i + 1), by omega, rfl, lt, p'⟩, fun x H' y => hs i x H H' lt p (wk.yields i H x H' lt q y)⟩
  · obtain rfl : i = n := by omega
    exact .inl ⟨wk.stops H q, hd H p⟩
end
theorem k_setI (K : PySem.W.Frag) (ww : World) {X : Cx} (hc : X.calm = true) (h : X.K = K := by rfl) (h2 : X.w = ww := by rfl) : CallR X (.type "set") (rSetI K ww) := by
  subst h h2
  exact cr_setI hc
theorem k_sortedSet (ww : World) {X : Cx} (hc : X.calm = true) (h2 : X.w = ww := by rfl) : CallR X (.builtin "sorted") (rSortedSet ww) := by
  subst h2
  exact cr_sortedSet hc
theorem asc_ext : ∀ {a b : List Int}, a.Pairwise (· < ·) → b.Pairwise (· < ·) → (∀ k, k ∈ a ↔ k ∈ b) → a = b
  | [], [], _, _, _ => rfl
  | [], y :: b, _, _, h => nomatch (h y).mpr (List.mem_cons_self ..)
  | x :: a, [], _, _, h => nomatch (h x).mp (List.mem_cons_self ..)
  | x :: a, y :: b, ha, hb, h => by
    obtain ⟨a1, a2⟩ := List.pairwise_cons.mp ha
    obtain ⟨b1, b2⟩ := List.pairwise_cons.mp hb
    have e : x = y := by
      rcases List.mem_cons.mp ((h x).mp (List.mem_cons_self ..)) with q | q
      · exact q
      · rcases List.mem_cons.mp ((h y).mpr (List.mem_cons_self ..)) with z | z
        · exact z.symm
        · have := b1 x q
          have := a1 y z
          omega
    subst e
    refine congrArg (x :: ·) (asc_ext a2 b2 fun k => ⟨fun hk => ?_, fun hk => ?_⟩)
    · rcases List.mem_cons.mp ((h k).mp (List.mem_cons_of_mem _ hk)) with q | q
      · have := a1 k hk
        omega
      · exact q
    · rcases List.mem_cons.mp ((h k).mpr (List.mem_cons_of_mem _ hk)) with q | q
      · have := b1 k hk
        omega
      · exact q
end RO

namespace RO
open PySem PySem.Spec PyProof.Rows L2
/-! ### tuples put together and cut, whatever their lengths -/
/-- x + y, two tuples: a tuple of both, new or one of them -/
def rCatU (K : PySem.W.Frag) : R2 := fun x y H Q => ∃ a b xs ys, x = .ref a ∧ y = .ref b ∧ SqT K H a xs ∧ SqT K H b ys ∧ xs.length + ys.length ≤ sizeLine ∧ ∀ q H', Same H H' → SqT K H' q (xs ++ ys) → Q (.ref q) H'
theorem k_catU (K : PySem.W.Frag) {X : Cx} (h : X.K = K := by rfl) : OpR X (binaryOp .Add) (rCatU K) := by
  subst h
  rintro pins s σ H x y v u Q I rx ry ⟨a, b, xs, ys, rfl, rfl, ha, hb, hz, q⟩
  by_cases hx : xs = []
  · subst hx
    cases rx
    cases ry
    obtain ⟨its, r1, p1, _⟩ := I.tuple ha
    obtain ⟨its2, r2, p2, _⟩ := I.tuple hb
    cases r1
    exact cat_tup0 p1 p2 ⟨.ref b, H, I, rfl, q b H (Same.refl _) hb⟩
  · refine op_catT pins s σ H (.ref a) (.ref b) v u Q I rx ry ⟨a, b, xs, ys, rfl, rfl, ha, hb, hx, hz, fun e => ?_, fun _ p hp => ?_⟩
    · subst e
      exact q a H (Same.refl _) (by rw [List.append_nil]; exact ha)
    · exact q p _ (same_new (Same.refl _) hp) (SqT.of upd_same)
/-- x[lo:hi], x a tuple: a tuple, new or itself -/
def rSlU (K : PySem.W.Frag) : V → Option Int → Option Int → Hp → VK → Prop := fun x lo hi H Q => ∃ a xs, x = .ref a ∧ SqT K H a xs ∧ ∀ q H', Same H H' → SqT K H' q (cutV xs lo hi) → Q (.ref q) H'
theorem k_slU (K : PySem.W.Frag) {X : Cx} (h : X.K = K := by rfl) : SlR X (rSlU K) := by
  subst h
  rintro pins s σ H x v vl vu lo hi sl Q I rx hs pl pu ⟨a, xs, rfl, ha, q⟩
  refine sl_tupA pins s σ H (.ref a) v vl vu lo hi sl Q I rx hs pl pu ⟨a, xs, rfl, ha, fun z => ?_, fun z p hp => ?_⟩
  · refine q a H (Same.refl _) ?_
    have e : cutV xs lo hi = xs := by
      unfold cutV
      rw [z.1, z.2, List.drop_zero, Nat.sub_zero, List.take_length]
    rw [e]
    exact ha
  · exact q p _ (same_new (Same.refl _) hp) (SqT.of upd_same)
theorem k_max (K : PySem.W.Frag) {X : Cx} (hc : X.calm = true) (h : X.K = K := by rfl) : CallR X (.builtin "max") (rMax K) := by
  subst h
  exact cr_max hc
end RO

namespace RO
/-! ### sums over stretches of whole numbers, forward and back -/
def nsum (f : Int → Int) : Nat → Int
  | 0 => 0
  | n + 1 => nsum f n + f n
def zsum (f : Int → Int) : Int → Int
  | .ofNat n => nsum f n
  | .negSucc n => - nsum (fun i => f (-i - 1)) (n + 1)
theorem zsum_nat (f : Int → Int) (n : Nat) : zsum f (n : Int) = nsum f n := rfl
theorem zsum_0 (f : Int → Int) : zsum f 0 = 0 := rfl
theorem zsum_succ (f : Int → Int) (n : Int) : zsum f (n + 1) = zsum f n + f n := by
  cases n with
  | ofNat n => rfl
  | negSucc n =>
    cases n with
    | zero =>
      show (0 : Int) = - (0 + f (-((0 : Nat) : Int) - 1)) + f (-1)
      have e : (-((0 : Nat) : Int) - 1) = -1 := rfl
      rw [e]
      omega
    | succ k =>
      show - nsum (fun i => f (-i - 1)) (k + 1) = - (nsum (fun i => f (-i - 1)) (k + 1) + f (-((k + 1 : Nat) : Int) - 1)) + f (Int.negSucc (k + 1))
      have e : (-((k + 1 : Nat) : Int) - 1) = Int.negSucc (k + 1) := by omega
      rw [e]
      omega
theorem zsum_uniq {f g : Int → Int} (h0 : g 0 = 0) (h : ∀ n, g (n + 1) = g n + f n) (n : Int) : g n = zsum f n := by
  have up : ∀ k : Nat, g (k : Int) = zsum f (k : Int) := by
    intro k
    induction k with
    | zero => exact h0
    | succ i ih => rw [show ((i + 1 : Nat) : Int) = (i : Int) + 1 from rfl, h, ih, zsum_succ]
  have down : ∀ k : Nat, g (-(k : Int)) = zsum f (-(k : Int)) := by
    intro k
    induction k with
    | zero => exact h0
    | succ i ih =>
      have a := h (-(i : Int) - 1)
      have b := zsum_succ f (-(i : Int) - 1)
      have e : -(i : Int) - 1 + 1 = -(i : Int) := by omega
      have e2 : -((i + 1 : Nat) : Int) = -(i : Int) - 1 := by omega
      rw [e] at a b
      rw [e2]
      omega
  rcases Int.natAbs_eq n with e | e
  · rw [e]; exact up _
  · rw [e]; exact down _
theorem zsum_congr {f g : Int → Int} (h : ∀ i, f i = g i) (n : Int) : zsum f n = zsum g n :=
  zsum_uniq (zsum_0 f) (fun i => by rw [zsum_succ, h]) n
theorem zsum_add (f : Int → Int) (a b : Int) : zsum f (a + b) = zsum f a + zsum (fun i => f (a + i)) b := by
  have h := zsum_uniq (f := fun i => f (a + i)) (g := fun i => zsum f (a + i) - zsum f a) (by show zsum f (a + 0) - _ = _; rw [Int.add_zero]; omega)
    (fun n => by show zsum f (a + (n + 1)) - _ = zsum f (a + n) - _ + f (a + n); rw [← Int.add_assoc, zsum_succ]; omega) b
  have h : zsum f (a + b) - zsum f a = _ := h
  omega
theorem zsum_neg (f : Int → Int) (n : Int) : zsum (fun i => - f i) n = - zsum f n :=
  (zsum_uniq (f := fun i => - f i) (g := fun i => - zsum f i) (by show - zsum f 0 = 0; rw [zsum_0]; rfl) (fun i => by show - zsum f (i + 1) = - zsum f i + - f i; rw [zsum_succ]; omega) n).symm
theorem zsum_const (c n : Int) : zsum (fun _ => c) n = n * c :=
  (zsum_uniq (f := fun _ => c) (g := fun i => i * c) (Int.zero_mul c) (fun i => by show (i + 1) * c = i * c + c; rw [Int.add_mul, Int.one_mul]) n).symm
/-- what is told by rounds is the sum -/
theorem rounds_sum {f : Int → Int} {m : Int} (hm : 0 < m) (per : ∀ i, f (i + m) = f i) (n : Int) : n / m * nsum f m.toNat + nsum f (n % m).toNat = zsum f n := by
  have perk : ∀ (k : Nat) (i : Int), f (i + m * k) = f i := by
    intro k
    induction k with
    | zero => intro i; rw [show i + m * ((0 : Nat) : Int) = i by rw [Int.natCast_zero, Int.mul_zero, Int.add_zero]]
    | succ k ih => intro i; rw [show i + m * ((k + 1 : Nat) : Int) = (i + m * (k : Int)) + m by rw [Int.natCast_add, Int.mul_add]; omega, per, ih]
  have perz : ∀ (q i : Int), f (i + m * q) = f i := by
    intro q i
    cases q with
    | ofNat k => exact perk k i
    | negSucc k =>
      have h := perk (k + 1) (i + m * Int.negSucc k)
      have e : i + m * Int.negSucc k + m * ((k + 1 : Nat) : Int) = i := by
        rw [Int.add_assoc, ← Int.mul_add, show Int.negSucc k + ((k + 1 : Nat) : Int) = 0 by omega, Int.mul_zero, Int.add_zero]
      rw [e] at h
      exact h.symm
  refine zsum_uniq (f := f) (g := fun n => n / m * nsum f m.toNat + nsum f (n % m).toNat) ?_ (fun n => ?_) n
  · show 0 / m * _ + nsum f (0 % m).toNat = 0
    rw [Int.zero_ediv, Int.zero_emod, Int.zero_mul]
    rfl
  · show (n + 1) / m * nsum f m.toNat + nsum f ((n + 1) % m).toNat = n / m * nsum f m.toNat + nsum f (n % m).toNat + f n
    have r0 := Int.emod_nonneg n (show m ≠ 0 by omega)
    have r1 := Int.emod_lt_of_pos n hm
    have dm := Int.emod_add_mul_ediv n m
    have fn : f n = f (n % m) := by
      have h := perz (n / m) (n % m)
      rw [dm] at h
      exact h
    obtain ⟨k, hk⟩ := Int.eq_ofNat_of_zero_le r0
    by_cases c : n % m + 1 < m
    · have e1 : (n + 1) / m = n / m ∧ (n + 1) % m = n % m + 1 := by
        rw [Int.ediv_emod_unique hm]
        refine ⟨?_, by omega, c⟩
        omega
      rw [e1.1, e1.2, fn, hk]
      show _ + (nsum f k + f k) = _ + nsum f k + f k
      omega
    · have e1 : (n + 1) / m = n / m + 1 ∧ (n + 1) % m = 0 := by
        rw [Int.ediv_emod_unique hm]
        refine ⟨?_, by omega, hm⟩
        rw [Int.mul_add]
        omega
      have em : m.toNat = k + 1 := by omega
      rw [e1.1, e1.2, fn, hk, em]
      show (n / m + 1) * (nsum f k + f k) + 0 = n / m * (nsum f k + f k) + nsum f k + f k
      rw [Int.add_mul, Int.one_mul]
      omega
/-- a whole round is added as often as it is gone -/
theorem zsum_rounds {f : Int → Int} {m : Int} (per : ∀ i, f (i + m) = f i) (a q : Int) : zsum f (a + q * m) = zsum f a + q * (zsum f (a + m) - zsum f a) := by
  have shift : ∀ n, zsum f (n + m) - zsum f n = zsum f m := by
    intro n
    have h := zsum_uniq (f := f) (g := fun n => zsum f (n + m) - zsum f m) (by show zsum f (0 + m) - _ = 0; rw [Int.zero_add]; omega)
      (fun n => by show zsum f (n + 1 + m) - _ = zsum f (n + m) - _ + f n; rw [show n + 1 + m = n + m + 1 by omega, zsum_succ, per]; omega) n
    have h : zsum f (n + m) - zsum f m = zsum f n := h
    omega
  have h : ∀ q : Int, zsum f (a + q * m) - zsum f a = zsum (fun _ => zsum f m) q := by
    intro q
    refine zsum_uniq (f := fun _ => zsum f m) (g := fun q => zsum f (a + q * m) - zsum f a) ?_ (fun q => ?_) q
    · show zsum f (a + 0 * m) - _ = 0
      rw [Int.zero_mul, Int.add_zero]
      omega
    · show zsum f (a + (q + 1) * m) - _ = zsum f (a + q * m) - _ + zsum f m
      have e : a + (q + 1) * m = a + q * m + m := by rw [Int.add_mul, Int.one_mul]; omega
      have := shift (a + q * m)
      rw [e]
      omega
  have h1 := h q
  rw [zsum_const] at h1
  rw [shift a]
  omega
/-! ### headings -/
/-- the number of the heading of a swing -/
def hdg (s p : Int) : Int := s / p % 8
def hxs : List Int := [0, 1, 1, 1, 0, -1, -1, -1]
def hys : List Int := [1, 1, 0, -1, -1, -1, 0, 1]
def dx (s p : Int) : Int := hxs.getD (hdg s p).toNat 0
def dy (s p : Int) : Int := hys.getD (hdg s p).toNat 0
theorem hdg_range (s p : Int) : 0 ≤ hdg s p ∧ hdg s p < 8 := ⟨Int.emod_nonneg _ (by decide), Int.emod_lt_of_pos _ (by decide)⟩
theorem hdg_per {p : Int} (hp : 0 < p) (s k : Int) : hdg (s + 8 * p * k) p = hdg s p := by
  unfold hdg
  rw [show s + 8 * p * k = s + p * (8 * k) by rw [Int.mul_comm 8 p, Int.mul_assoc], Int.add_mul_ediv_left _ _ (by omega), Int.add_mul_emod_self_left]
theorem dx_per {p : Int} (hp : 0 < p) (s k : Int) : dx (s + 8 * p * k) p = dx s p := by unfold dx; rw [hdg_per hp]
theorem dy_per {p : Int} (hp : 0 < p) (s k : Int) : dy (s + 8 * p * k) p = dy s p := by unfold dy; rw [hdg_per hp]
/-- the minutes of a round -/
def roundOf (v p : Int) : Int := 8 * p / ((Nat.gcd v.natAbs (8 * p).natAbs : Nat) : Int)
theorem roundOf_spec {p : Int} (hp : 0 < p) (v : Int) : 0 < roundOf v p ∧ roundOf v p ≤ 8 * p ∧ ∃ k, roundOf v p * v = 8 * p * k := by
  have hc : 0 < 8 * p := by omega
  have g0 : 0 < Nat.gcd v.natAbs (8 * p).natAbs := Nat.gcd_pos_of_pos_right _ (by omega)
  obtain ⟨a, ha⟩ := Nat.gcd_dvd_left v.natAbs (8 * p).natAbs
  obtain ⟨b, hb⟩ := Nat.gcd_dvd_right v.natAbs (8 * p).natAbs
  unfold roundOf
  generalize Nat.gcd v.natAbs (8 * p).natAbs = g at *
  have eb : 8 * p = (g : Int) * (b : Int) := by rw [← Int.natCast_mul, ← hb]; omega
  have er : 8 * p / (g : Int) = (b : Int) := by rw [eb, Int.mul_ediv_cancel_left _ (by omega)]
  rw [er]
  have b0 : b ≠ 0 := fun z => by rw [z, Int.natCast_zero, Int.mul_zero] at eb; omega
  refine ⟨by omega, ?_, ?_⟩
  · rw [eb]
    have : b ≤ g * b := Nat.le_mul_of_pos_left b g0
    rw [← Int.natCast_mul]
    omega
  · obtain ⟨va, hva⟩ : ∃ va : Int, v = (g : Int) * va := by
      rcases Int.natAbs_eq v with z | z
      · exact ⟨a, by rw [z, ha, Int.natCast_mul]⟩
      · exact ⟨-a, by rw [z, ha, Int.natCast_mul, Int.mul_neg]⟩
    refine ⟨va, ?_⟩
    rw [eb, hva, ← Int.mul_assoc, Int.mul_comm (b : Int) (g : Int)]
theorem round_per {h : Int → Int → Int} {p : Int} (hp : 0 < p) (per : ∀ s k, h (s + 8 * p * k) p = h s p) (s v i : Int) : h (s + (i + roundOf v p) * v) p = h (s + i * v) p := by
  obtain ⟨k, hk⟩ := (roundOf_spec hp v).2.2
  rw [show s + (i + roundOf v p) * v = s + i * v + 8 * p * k by rw [Int.add_mul, hk]; omega, per]
/-- where she is: x, y, swing -/
structure Boat where
  x : Int
  y : Int
  s : Int
def sailed (b : Boat) (port star n p : Int) : Boat :=
  ⟨b.x + (port + star) * zsum (fun i => dx (b.s + i * (port - star)) p) n, b.y + (port + star) * zsum (fun i => dy (b.s + i * (port - star)) p) n, b.s + n * (port - star)⟩
theorem sailed_0 (b : Boat) (port star p : Int) : sailed b port star 0 p = b := by
  unfold sailed
  rw [zsum_0, zsum_0, Int.mul_zero, Int.zero_mul, Int.add_zero, Int.add_zero, Int.add_zero]
/-- in pieces -/
theorem sailed_add (b : Boat) (port star m n p : Int) : sailed (sailed b port star m p) port star n p = sailed b port star (m + n) p := by
  unfold sailed
  have e : ∀ i : Int, b.s + m * (port - star) + i * (port - star) = b.s + (m + i) * (port - star) := fun i => by rw [Int.add_mul]; omega
  simp only [e]
  rw [zsum_add _ m n, zsum_add _ m n, Int.mul_add, Int.mul_add, Int.add_assoc, Int.add_assoc]
end RO

namespace RO
open PySem PySem.Spec PyProof.Rows L2
def top (i : Nat) : Stmt := PySem.Challenge.pw_ringorders_k53_headings_and_a_minute.main.body.getD i (.Pass ⟨0, 0, 0, 0⟩)
abbrev s_heading : Stmt := top 3
theorem sc_heading : FnScope ["swing", "step"] ["swing", "step"] (defScope s_heading) := ⟨rfl, rfl, rfl, by decide +kernel, rfl, by decide +kernel, by decide +kernel⟩
abbrev s_sail : Stmt := top 4
theorem sc_sail : FnScope ["ship", "port", "star", "minutes", "step", "x", "y", "swing", "veer", "circle", "many", "rounds", "left", "round_x", "round_y", "left_x", "left_y", "made"] ["ship", "port", "star", "minutes", "step"] (defScope s_sail) := ⟨rfl, rfl, rfl, by decide +kernel, rfl, by decide +kernel, by decide +kernel⟩
abbrev s_way : Stmt := top 5
theorem sc_way : FnScope ["swing", "veer", "minutes", "step", "x", "y", "minute", "along_x", "along_y"] ["swing", "veer", "minutes", "step"] (defScope s_way) := ⟨rfl, rfl, rfl, by decide +kernel, rfl, by decide +kernel, by decide +kernel⟩
abbrev s_pen : Stmt := top 7
theorem sc_pen : FnScope ["_law_script"] ["_law_script"] (defScope s_pen) := ⟨rfl, rfl, rfl, by decide +kernel, rfl, by decide +kernel, by decide +kernel⟩
abbrev s_take : Stmt := top 8
theorem sc_take : FnScope ["_law_pen_here", "_law_many", "_law_digit", "_law_turn_here", "_law_cell", "_law_whole", "_law_mixed"] ["_law_pen_here", "_law_many"] (defScope s_take) := ⟨rfl, rfl, rfl, by decide +kernel, rfl, by decide +kernel, by decide +kernel⟩
abbrev s_far : Stmt := top 9
theorem sc_far : FnScope ["_law_pen_here", "_law_way", "_law_far_here", "_law_k"] ["_law_pen_here"] (defScope s_far) := ⟨rfl, rfl, rfl, by decide +kernel, rfl, by decide +kernel, by decide +kernel⟩
abbrev s_step : Stmt := top 10
theorem sc_step : FnScope ["_law_pen_here"] ["_law_pen_here"] (defScope s_step) := ⟨rfl, rfl, rfl, by decide +kernel, rfl, by decide +kernel, by decide +kernel⟩
abbrev s_ship : Stmt := top 11
theorem sc_ship : FnScope ["_law_pen_here", "_law_point", "_law_edge"] ["_law_pen_here", "_law_point"] (defScope s_ship) := ⟨rfl, rfl, rfl, by decide +kernel, rfl, by decide +kernel, by decide +kernel⟩
abbrev s_turn : Stmt := top 12
theorem sc_turn : FnScope ["_law_pen_here"] ["_law_pen_here"] (defScope s_turn) := ⟨rfl, rfl, rfl, by decide +kernel, rfl, by decide +kernel, by decide +kernel⟩
abbrev s_minute_on : Stmt := top 13
theorem sc_minute_on : FnScope ["_law_boat", "_law_larboard", "_law_starboard", "_law_point", "_law_ways", "_law_x", "_law_y", "_law_lean", "_law_way"] ["_law_boat", "_law_larboard", "_law_starboard", "_law_point"] (defScope s_minute_on) := ⟨rfl, rfl, rfl, by decide +kernel, rfl, by decide +kernel, by decide +kernel⟩
abbrev s_plain : Stmt := top 14
theorem sc_plain : FnScope ["_law_found", "_law_one"] ["_law_found"] (defScope s_plain) := ⟨rfl, rfl, rfl, by decide +kernel, rfl, by decide +kernel, by decide +kernel⟩
abbrev s_same : Stmt := top 15
theorem sc_same : FnScope ["_law_found", "_law_due"] ["_law_found", "_law_due"] (defScope s_same) := ⟨rfl, rfl, rfl, by decide +kernel, rfl, by decide +kernel, by decide +kernel⟩
abbrev s_law_heading : Stmt := top 16
theorem sc_law_heading : FnScope ["_law_lean", "_law_point", "_law_left", "_law_found"] ["_law_lean", "_law_point"] (defScope s_law_heading) := ⟨rfl, rfl, rfl, by decide +kernel, rfl, by decide +kernel, by decide +kernel⟩
abbrev s_right : Stmt := top 17
theorem sc_right : FnScope ["_law_boat", "_law_larboard", "_law_starboard", "_law_point", "_law_found", "_law_back"] ["_law_boat", "_law_larboard", "_law_starboard", "_law_point"] (defScope s_right) := ⟨rfl, rfl, rfl, by decide +kernel, rfl, by decide +kernel, by decide +kernel⟩
abbrev s_law : Stmt := top 18
theorem sc_law : FnScope ["_law_script", "_law_pen_here", "_law_asked", "_law_turn_here", "_law_point", "_law_larboard", "_law_boat", "_law_starboard"] ["_law_script"] (defScope s_law) := ⟨rfl, rfl, rfl, by decide +kernel, rfl, by decide +kernel, by decide +kernel⟩
structure Txt (w : World) (K : PySem.W.Frag) (mg : Str → Option Value) where
  a_heading : Addr
  d_heading : FuncData
  F_heading : FunD K "heading" "heading" (defArgs s_heading) (defBody s_heading) (defScope s_heading) [V.int (45)] [] a_heading d_heading
  ds2_heading : List Value
  v2_heading : Vals ([] : List V) ds2_heading
  b2_heading : Binds K d_heading ["swing", "step"] ds2_heading
  ds1_heading : List Value
  v1_heading : Vals ([V.int (45)] : List V) ds1_heading
  b1_heading : Binds K d_heading ["swing", "step"] ds1_heading
  g_heading : mg "heading" = some (.ref a_heading)
  a_sail : Addr
  d_sail : FuncData
  F_sail : FunD K "sail" "sail" (defArgs s_sail) (defBody s_sail) (defScope s_sail) [V.int (45)] [] a_sail d_sail
  ds4_sail : List Value
  v4_sail : Vals ([V.int (45)] : List V) ds4_sail
  b4_sail : Binds K d_sail ["ship", "port", "star", "minutes", "step"] ds4_sail
  ds5_sail : List Value
  v5_sail : Vals ([] : List V) ds5_sail
  b5_sail : Binds K d_sail ["ship", "port", "star", "minutes", "step"] ds5_sail
  g_sail : mg "sail" = some (.ref a_sail)
  a_way : Addr
  d_way : FuncData
  F_way : Fun K "way" "way" s_way a_way d_way
  b_way : Binds K d_way ["swing", "veer", "minutes", "step"] []
  g_way : mg "way" = some (.ref a_way)
  a_pen : Addr
  d_pen : FuncData
  F_pen : Fun K "_law_pen" "_law_pen" s_pen a_pen d_pen
  b_pen : Binds K d_pen ["_law_script"] []
  g_pen : mg "_law_pen" = some (.ref a_pen)
  a_take : Addr
  d_take : FuncData
  F_take : Fun K "_law_take" "_law_take" s_take a_take d_take
  b_take : Binds K d_take ["_law_pen_here", "_law_many"] []
  g_take : mg "_law_take" = some (.ref a_take)
  a_far : Addr
  d_far : FuncData
  F_far : Fun K "_law_far" "_law_far" s_far a_far d_far
  b_far : Binds K d_far ["_law_pen_here"] []
  g_far : mg "_law_far" = some (.ref a_far)
  a_step : Addr
  d_step : FuncData
  F_step : Fun K "_law_step" "_law_step" s_step a_step d_step
  b_step : Binds K d_step ["_law_pen_here"] []
  g_step : mg "_law_step" = some (.ref a_step)
  a_ship : Addr
  d_ship : FuncData
  F_ship : Fun K "_law_ship" "_law_ship" s_ship a_ship d_ship
  b_ship : Binds K d_ship ["_law_pen_here", "_law_point"] []
  g_ship : mg "_law_ship" = some (.ref a_ship)
  a_turn : Addr
  d_turn : FuncData
  F_turn : Fun K "_law_turn" "_law_turn" s_turn a_turn d_turn
  b_turn : Binds K d_turn ["_law_pen_here"] []
  g_turn : mg "_law_turn" = some (.ref a_turn)
  a_minute_on : Addr
  d_minute_on : FuncData
  F_minute_on : Fun K "_law_minute_on" "_law_minute_on" s_minute_on a_minute_on d_minute_on
  b_minute_on : Binds K d_minute_on ["_law_boat", "_law_larboard", "_law_starboard", "_law_point"] []
  g_minute_on : mg "_law_minute_on" = some (.ref a_minute_on)
  a_plain : Addr
  d_plain : FuncData
  F_plain : Fun K "_law_plain" "_law_plain" s_plain a_plain d_plain
  b_plain : Binds K d_plain ["_law_found"] []
  g_plain : mg "_law_plain" = some (.ref a_plain)
  a_same : Addr
  d_same : FuncData
  F_same : Fun K "_law_same" "_law_same" s_same a_same d_same
  b_same : Binds K d_same ["_law_found", "_law_due"] []
  g_same : mg "_law_same" = some (.ref a_same)
  a_law_heading : Addr
  d_law_heading : FuncData
  F_law_heading : Fun K "_law_heading" "_law_heading" s_law_heading a_law_heading d_law_heading
  b_law_heading : Binds K d_law_heading ["_law_lean", "_law_point"] []
  g_law_heading : mg "_law_heading" = some (.ref a_law_heading)
  a_right : Addr
  d_right : FuncData
  F_right : Fun K "_law_right" "_law_right" s_right a_right d_right
  b_right : Binds K d_right ["_law_boat", "_law_larboard", "_law_starboard", "_law_point"] []
  g_right : mg "_law_right" = some (.ref a_right)
  a_law : Addr
  d_law : FuncData
  F_law : Fun K "law" "law" s_law a_law d_law
  b_law : Binds K d_law ["_law_script"] []
  g_law : mg "law" = some (.ref a_law)
  it0_sail : List Value
  kb0_sail : KBinds K d_sail ["ship", "port", "star", "minutes", "step"] ["minutes", "step"] (fun us ws => match us, (it0_sail : List _), ws with | [p0, p1, p2], [_], [x0, x1] => [p0, p1, p2, x0, x1] | _, _, _ => []) (fun us ws => match us, ([V.int (45)] : List _), ws with | [p0, p1, p2], [_], [x0, x1] => [p0, p1, p2, x0, x1] | _, _, _ => [])
  it1_sail : List Value
  kb1_sail : KBinds K d_sail ["ship", "port", "star", "minutes", "step"] ["step", "minutes", "star", "port", "ship"] (fun us ws => match us, (it1_sail : List _), ws with | [], [_], [x0, x1, x2, x3, x4] => [x4, x3, x2, x1, x0] | _, _, _ => []) (fun us ws => match us, ([V.int (45)] : List _), ws with | [], [_], [x0, x1, x2, x3, x4] => [x4, x3, x2, x1, x0] | _, _, _ => [])
  it0_heading : List Value
  kb0_heading : KBinds K d_heading ["swing", "step"] ["step", "swing"] (fun us ws => match us, (it0_heading : List _), ws with | [], [_], [x0, x1] => [x1, x0] | _, _, _ => []) (fun us ws => match us, ([V.int (45)] : List _), ws with | [], [_], [x0, x1] => [x1, x0] | _, _, _ => [])
  z_abs : mg "abs" = none
  z_bool : mg "bool" = none
  z_divmod : mg "divmod" = none
  z_int : mg "int" = none
  z_isinstance : mg "isinstance" = none
  z_len : mg "len" = none
  z_range : mg "range" = none
  z_tuple : mg "tuple" = none
  i_gcd : mg "gcd" = some (.builtin "math.gcd")
  D_HEADINGS : Addr
  c_HEADINGS : mg "HEADINGS" = some (.ref D_HEADINGS)
  D0_HEADINGS : Addr
  D1_HEADINGS : Addr
  D2_HEADINGS : Addr
  D3_HEADINGS : Addr
  D4_HEADINGS : Addr
  D5_HEADINGS : Addr
  D6_HEADINGS : Addr
  D7_HEADINGS : Addr
  kt_HEADINGS : ∀ H : Hp, SqT K H D_HEADINGS [V.ref D0_HEADINGS, V.ref D1_HEADINGS, V.ref D2_HEADINGS, V.ref D3_HEADINGS, V.ref D4_HEADINGS, V.ref D5_HEADINGS, V.ref D6_HEADINGS, V.ref D7_HEADINGS]
  kt0_HEADINGS : ∀ H : Hp, SqT K H D0_HEADINGS [V.int (0), V.int (1)]
  kt1_HEADINGS : ∀ H : Hp, SqT K H D1_HEADINGS [V.int (1), V.int (1)]
  kt2_HEADINGS : ∀ H : Hp, SqT K H D2_HEADINGS [V.int (1), V.int (0)]
  kt3_HEADINGS : ∀ H : Hp, SqT K H D3_HEADINGS [V.int (1), V.int (-1)]
  kt4_HEADINGS : ∀ H : Hp, SqT K H D4_HEADINGS [V.int (0), V.int (-1)]
  kt5_HEADINGS : ∀ H : Hp, SqT K H D5_HEADINGS [V.int (-1), V.int (-1)]
  kt6_HEADINGS : ∀ H : Hp, SqT K H D6_HEADINGS [V.int (-1), V.int (0)]
  kt7_HEADINGS : ∀ H : Hp, SqT K H D7_HEADINGS [V.int (-1), V.int (1)]
/-! a step of a reading whose answer is fixed: a name, a number's operation -/
local macro_rules | `(tactic| walk_at "rd") => `(tactic| (first
  | refine ⟨_, rfl, ?_⟩
  | refine ⟨_, _, rfl, rfl, ?_⟩
  | (refine And.intro ?rdc ?_; (case rdc => first | decide | omega | exact ⟨by omega, by omega⟩ | exact ⟨by decide, by decide, by omega⟩ | exact ⟨by decide, by decide, by decide⟩ | exact .inl ⟨by omega, by omega⟩ | exact .inr ⟨by omega, by omega⟩))))
section
variable {P : Program} {w : World} {K : PySem.W.Frag} {mg : Str → Option Value} {base : Heap}
/-! ### the pen -/
def spTake (K : PySem.W.Frag) : Sp := fun vs H Q _ => ∃ (p c : Addr) (n : Nat) (m : Int), vs = [.ref p, .int m] ∧ PenAt H p c n ∧ Cells K H p c ∧ n ≤ 100000 ∧ 1 ≤ m ∧ m < 1073741824 ∧
  ∀ H' r, Go K p c H (n + 1) H' → 0 ≤ r → r < m → Q (.int r) H'
theorem ok_take (T : Txt w K mg) : FnOk P w K mg base CX0 1 T.a_take T.d_take ["_law_pen_here", "_law_many"] (spTake K) := by
  refine T.F_take.ok sc_take (fun vs H Q E h => ?_) (fun cdv A outer s H vs Q E hr h => ?_)
  · obtain ⟨p, c, n, m, rfl, _⟩ := h
    rfl
  · obtain ⟨p, c, n, m, rfl, hp, hc, hn, hm1, hm2, q⟩ := h
    obtain ⟨at_, cy, e, h0, h1, h2⟩ := id hp
    obtain ⟨ne, ns, hS, hl⟩ := id hc
    refine ⟨_, (pss_cons (ps_if (pt_cmpR op_gt (pe_ix (kx_list K) (pv 0) pe_int (fun _ _ => rfl)) pe_int (nomark _)) (pss_cons (ps_set (i := 2) sc_take.nd rfl (by first | exact Or.inl rfl | exact Or.inr rfl) (pe_op op_modN (pe_ix (kx_list K) (pv 0) pe_int (fun _ _ => rfl)) (pv 1)))
  (pss_cons (ps_asg (pe_op op_fdivN (pe_ix (kx_list K) (pv 0) pe_int (fun _ _ => rfl)) (pv 1)) (pg_sub (pv 0) pe_int set_list))
  (pss_one (ps_ret (pv 2))))) pss_nil)
  (pss_cons (ps_set (i := 3) sc_take.nd rfl (by first | exact Or.inl rfl | exact Or.inr rfl) (pe_ix (kx_list K) (pv 0) pe_int (fun _ _ => rfl)))
  (pss_cons (ps_asg (pe_op op_add (pv 3) pe_int) (pg_sub (pv 0) pe_int set_list))
  (pss_cons (ps_set (i := 4) sc_take.nd rfl (by first | exact Or.inl rfl | exact Or.inr rfl) pe_int)
  (C8.pss_cut (ps_if (pt_cmpR op_gt (pe_callB (k_len K) (by rfl) T.z_len (by decide +kernel) (pa_cons (pe_ix (kx_list K) (pv 0) pe_int (fun _ _ => rfl)) pa_nil)) pe_int (nomark _)) (pss_one (ps_set (i := 4) sc_take.nd rfl (by first | exact Or.inl rfl | exact Or.inr rfl) (pe_ix (kx_list K) (pe_ix (kx_list K) (pv 0) pe_int (fun _ _ => rfl)) (pe_op op_modN (pv 3) (pe_callB (k_len K) (by rfl) T.z_len (by decide +kernel) (pa_cons (pe_ix (kx_list K) (pv 0) pe_int (fun _ _ => rfl)) pa_nil))) (fun _ _ => rfl)))) pss_nil)
  (C8.pss_cut (ps_if (PW.pt (pw_and (pt_cmpR op_lt (pv 3) (pe_callB (k_len K) (by rfl) T.z_len (by decide +kernel) (pa_cons (pe_ix (kx_list K) (pv 0) pe_int (fun _ _ => rfl)) pa_nil)) (nomark _)) (pw_and1 (pt_cmpR op_ge (pe_callB call_abs (by rfl) T.z_abs (by decide +kernel) (pa_cons (pv 4) pa_nil)) (pe_op op_pow pe_int pe_int) (nomark _))))) (pss_cons (ps_set (i := 5) sc_take.nd rfl (by first | exact Or.inl rfl | exact Or.inr rfl) (pe_op op_add (pe_op op_mul pe_int (pe_callB call_abs (by rfl) T.z_abs (by decide +kernel) (pa_cons (pv 4) pa_nil))) (pe_callTy call_int1 (by rfl) T.z_int (by decide +kernel) (pa_cons (pe_cmpR op_lt (pv 4) pe_int (nomark _)) pa_nil))))
  (pss_cons (ps_asg (pe_op op_fdivN (pv 5) (pv 1)) (pg_sub (pv 0) pe_int set_list))
  (pss_one (ps_ret (pe_op op_modN (pv 5) (pv 1)))))) pss_nil)
  (pss_cons (ps_set (i := 6) sc_take.nd rfl (by first | exact Or.inl rfl | exact Or.inr rfl) (pe_op op_modN (pe_op op_pow (pe_op op_add (pe_op op_add (pe_op op_modN (pv 4) pe_int) (pe_op op_mul pe_int (pv 3))) pe_int) pe_int) pe_int))
  (pss_cons (ps_set (i := 6) sc_take.nd rfl (by first | exact Or.inl rfl | exact Or.inr rfl) (pe_op op_modN (pe_op op_pow (pe_op op_add (pe_op op_mul (pv 6) (pe_op op_add (pv 3) pe_int)) (pe_op op_modN (pv 4) pe_int)) pe_int) pe_int))
  (pss_one (ps_ret (pe_op op_modN (pe_op op_fdivN (pv 6) pe_int) (pv 1)))))))))))), ?_⟩
    refine ⟨_, rfl, p, _, 2, _, rfl, rfl, SqL.of e, rfl, _, _, rfl, rfl, _, rfl, ite2 (fun t => ?_) (fun t => ?_)⟩
    · -- a rest is left
      have t' : 0 < cy := of_decide_eq_true t
      refine ⟨_, rfl, p, _, 2, _, rfl, rfl, SqL.of e, rfl, _, rfl, _, _, rfl, rfl, (by omega), ?_⟩
      refine ⟨_, rfl, p, _, 2, _, rfl, rfl, SqL.of e, rfl, _, rfl, _, _, rfl, rfl, ⟨by omega, by omega⟩, ?_⟩
      refine ⟨_, rfl, p, _, 2, 2, rfl, rfl, e, rfl, ?_⟩
      refine ⟨_, rfl, q _ _ (Go.make hc But.put upd_same h0 (by omega) (fdiv_ge h2 (by omega))) (fmod_ge (by omega)) (fmod_lt (by omega))⟩
    · refine ⟨_, rfl, p, _, 1, _, rfl, rfl, SqL.of e, rfl, ?_⟩
      refine ⟨_, rfl, _, _, rfl, rfl, _, rfl, p, _, 1, 1, rfl, rfl, e, rfl, ?_⟩
      -- the place goes on
      have e1 : upd H p (.lst ([V.ref c, V.int at_, V.int cy].set 1 (V.int (at_ + 1)))) p = some (.lst [V.ref c, V.int (at_ + 1), V.int cy]) := upd_same
      have b1 : But p H (upd H p (.lst ([V.ref c, V.int at_, V.int cy].set 1 (V.int (at_ + 1))))) := But.put
      generalize upd H p (.lst ([V.ref c, V.int at_, V.int cy].set 1 (V.int (at_ + 1)))) = H1 at e1 b1 ⊢
      have hS1 := b1.seqL ne hS
      -- the cell
      refine ⟨fun σ' H' => ∃ cell : Int, σ' = [some (.ref p), some (.int m), none, some (.int at_), some (.int cell), none, none] ∧ But p H H' ∧ H' p = some (.lst [.ref c, .int (at_ + 1), .int cy]), ?_, ?_⟩
      · refine ⟨_, rfl, p, _, 0, _, rfl, rfl, SqL.of e1, rfl, c, _, rfl, .inl hS1, _, _, rfl, rfl, _, rfl, ite2 (fun t2 => ?_) (fun t2 => ⟨_, rfl, b1, e1⟩)⟩
        have l0 : 0 < (ns.map V.int).length := by
          have := of_decide_eq_true t2
          omega
        obtain ⟨v, hv, ev⟩ := atI_fmod (xs := ns.map V.int) (i := at_) l0
        obtain ⟨z, _, rfl⟩ := List.mem_map.mp hv
        exact ⟨_, rfl, p, _, 0, _, rfl, rfl, SqL.of e1, rfl, _, rfl, _, rfl, p, _, 0, _, rfl, rfl, SqL.of e1, rfl, c, _, rfl, .inl hS1, _, _, rfl, rfl, (by omega), c, _, _, _, rfl, rfl, hS1, ev, z, rfl, b1, e1⟩
      · clear e1 b1 hS1
        rintro σ' H2 ⟨cell, rfl, b1, e1⟩
        have hS1 := b1.seqL ne hS
        refine ⟨fun σ2 H3 => σ2 = [some (.ref p), some (.int m), none, some (.int at_), some (.int cell), none, none] ∧ H3 = H2, ?_, ?_⟩
        · refine ⟨_, rfl, _, rfl, p, _, 0, _, rfl, rfl, SqL.of e1, rfl, c, _, rfl, .inl hS1, _, _, rfl, rfl, _, rfl, ite2 (fun t3 => ?_) (fun t3 => iteF ⟨rfl, rfl⟩)⟩
          refine ⟨_, rfl, _, rfl, _, _, rfl, rfl, ⟨by decide, by decide, by decide⟩, _, _, rfl, rfl, _, rfl, ite2 (fun t4 => ?_) (fun t4 => ⟨rfl, rfl⟩)⟩
          have habs : (0 : Int) ≤ if cell < 0 then -cell else cell := by
            split <;> omega
          refine ⟨_, rfl, _, rfl, _, _, rfl, rfl, .inl ⟨by decide, by decide⟩, _, rfl, _, _, rfl, rfl, .inr ⟨_, rfl, ?_⟩⟩
          have hone : (0 : Int) ≤ if decide (cell < 0) = true then 1 else 0 := by
            split <;> omega
          refine ⟨_, _, rfl, rfl, _, rfl, _, rfl, _, _, rfl, rfl, ⟨by omega, by omega⟩, _, rfl, p, _, 2, 2, rfl, rfl, e1, rfl, ?_⟩
          exact ⟨_, rfl, _, rfl, _, _, rfl, rfl, (by omega), q _ _ (Go.make hc (b1.trans But.put) upd_same (by omega) (by omega) (fdiv_ge (by omega) (by omega))) (fmod_ge (by omega)) (fmod_lt (by omega))⟩
        · rintro σ2 H3 ⟨rfl, rfl⟩
          have a1 := fmod_ge (a := cell) (b := 2147483587) (by decide)
          have a2 := fmod_lt (a := cell) (b := 2147483587) (by decide)
          have c1 := fmod_ge (a := cell) (b := 1013) (by decide)
          have c2 := fmod_lt (a := cell) (b := 1013) (by decide)
          have z1 := fmod_ge (a := (cell.fmod 2147483587 + 8117 * at_ + 211) ^ Int.toNat 3) (b := 2147483647) (by decide)
          have z2 := fmod_lt (a := (cell.fmod 2147483587 + 8117 * at_ + 211) ^ Int.toNat 3) (b := 2147483647) (by decide)
          have y1 : 0 ≤ ((cell.fmod 2147483587 + 8117 * at_ + 211) ^ Int.toNat 3).fmod 2147483647 * (at_ + 50021) := Int.mul_nonneg z1 (by omega)
          have y2 : ((cell.fmod 2147483587 + 8117 * at_ + 211) ^ Int.toNat 3).fmod 2147483647 * (at_ + 50021) ≤ 2147483647 * 150021 := Int.mul_le_mul (by omega) (by omega) (by omega) (by decide)
          repeat (walk_at "rd")
          exact q _ _ (Go.make hc b1 e1 (by omega) (by omega) h2) (fmod_ge (by omega)) (fmod_lt (by omega))
/-! ### what is drawn: far numbers, steps, turns, ships -/
def spFar (K : PySem.W.Frag) : Sp := fun vs H Q _ => ∃ (p c : Addr) (n : Nat), vs = [.ref p] ∧ PenAt H p c n ∧ Cells K H p c ∧ n ≤ 90000 ∧ ∀ H' i, Go K p c H (n + 8) H' → Q (.int i) H'
theorem ok_far (T : Txt w K mg) : FnOk P w K mg base CX0 2 T.a_far T.d_far ["_law_pen_here"] (spFar K) := by
  have G_take := ok_take (P := P) (base := base) T
  refine T.F_far.ok sc_far (fun vs H Q E h => ?_) (fun cdv A outer s H vs Q E hr h => ?_)
  · obtain ⟨p, c, n, rfl, _⟩ := h
    rfl
  · obtain ⟨p, c, n, rfl, hp, hc, hn, k⟩ := h
    have hr_take := hr
    have sgn : ∀ {x y : V} {ys : List V} {i : Int}, 0 ≤ i → i < 2 → atI [V.int 1, V.int (-1)] i = some y → ∃ z : Int, y = V.int z ∧ -1 ≤ z ∧ z ≤ 1 := by
      intro x y ys i h0 h1 e
      obtain ⟨v, hv, ev⟩ := atI_lt (xs := [V.int 1, V.int (-1)]) h0 h1
      rw [ev] at e
      have hy := Option.some.inj e
      rw [hy] at hv
      have z : y = V.int 1 ∨ y = V.int (-1) := by simpa using hv
      rcases z with z | z <;> exact ⟨_, z, by decide, by decide⟩
    refine ⟨_, (pss_cons (ps_set (i := 1) sc_far.nd rfl (by first | exact Or.inl rfl | exact Or.inr rfl) (pe_call G_take hr_take (by rfl) T.g_take T.F_take.kp T.b_take .nil pass0 (pa_cons (pv 0) (pa_cons pe_int pa_nil))))
  (pss_cons (ps_if (pt_cmpR op_lt (pv 1) pe_int (nomark _)) (pss_one (ps_ret (pe_op op_mul (pe_ix (kx_list K) (pe_lst (pa_cons pe_int (pa_cons pe_int (pa_cons (pe_call G_take hr_take (by rfl) T.g_take T.F_take.kp T.b_take .nil pass0 (pa_cons (pv 0) (pa_cons pe_int pa_nil))) (pa_cons (pe_call G_take hr_take (by rfl) T.g_take T.F_take.kp T.b_take .nil pass0 (pa_cons (pv 0) (pa_cons pe_int pa_nil))) pa_nil))))) (pv 1) (fun _ _ => rfl)) (pe_ix (kx_list K) (pe_lst (pa_cons pe_int (pa_cons (pe_un un_neg pe_int) pa_nil))) (pe_call G_take hr_take (by rfl) T.g_take T.F_take.kp T.b_take .nil pass0 (pa_cons (pv 0) (pa_cons pe_int pa_nil))) (fun _ _ => rfl))))) pss_nil)
  (pss_cons (ps_set (i := 2) sc_far.nd rfl (by first | exact Or.inl rfl | exact Or.inr rfl) pe_int)
  (pss_cons (ps_for PassesOwn.never rfl (pi_range1 (by rfl) T.z_range (pa_cons (pe_ix (kx_list K) (pe_lst (pa_cons pe_int (pa_cons (pe_op op_add pe_int (pe_call G_take hr_take (by rfl) T.g_take T.F_take.kp T.b_take .nil pass0 (pa_cons (pv 0) (pa_cons pe_int pa_nil)))) pa_nil))) (pe_op op_sub (pv 1) pe_int) (fun _ _ => rfl)) pa_nil)) (pg_name (i := 3) sc_far.nd rfl (by first | exact Or.inl rfl | exact Or.inr rfl)) (pss_one (ps_set (i := 2) sc_far.nd rfl (by first | exact Or.inl rfl | exact Or.inr rfl) (pe_op op_add (pe_op op_mul (pv 2) (pe_op op_pow pe_int pe_int)) (pe_call G_take hr_take (by rfl) T.g_take T.F_take.kp T.b_take .nil pass0 (pa_cons (pv 0) (pa_cons (pe_op op_pow pe_int pe_int) pa_nil)))))))
  (pss_one (ps_ret (pe_op op_mul (pv 2) (pe_ix (kx_list K) (pe_lst (pa_cons pe_int (pa_cons (pe_un un_neg pe_int) pa_nil))) (pe_call G_take hr_take (by rfl) T.g_take T.F_take.kp T.b_take .nil pass0 (pa_cons (pv 0) (pa_cons pe_int pa_nil))) (fun _ _ => rfl))))))))), ?_⟩
    refine ⟨_, rfl, p, c, n, 6, rfl, hp, hc, by omega, by decide, by decide, fun H1 r1 g1 a1 b1 => ?_⟩
    refine ⟨_, rfl, _, _, rfl, rfl, _, rfl, ite2 (fun t => ?_) (fun t => ?_)⟩
    · have t := of_decide_eq_true t
      refine ⟨_, rfl, p, c, _, _, rfl, g1.pen, g1.cel, by omega, by decide, by decide, fun H2 r2 g2 a2 b2 => ?_⟩
      refine ⟨_, rfl, p, c, _, _, rfl, g2.pen, g2.cel, by omega, by decide, by decide, fun H3 r3 g3 a3 b3 => ?_⟩
      refine ⟨(by show 4 ≤ sizeLine; decide), fun l hl => ?_⟩
      generalize hX : upd H3 l _ = H4
      obtain ⟨S4, f4⟩ := alloc hl hX
      clear hX
      obtain ⟨v, hv, ev⟩ := atI_lt (xs := [V.int 0, V.int 1, V.int r2, V.int r3]) a1 t
      obtain ⟨i, rfl⟩ : ∃ i : Int, v = V.int i := by
        have z : v = V.int 0 ∨ v = V.int 1 ∨ v = V.int r2 ∨ v = V.int r3 := by simpa using hv
        rcases z with rfl | rfl | rfl | rfl <;> exact ⟨_, rfl⟩
      refine ⟨_, rfl, l, _, _, _, rfl, rfl, SqL.of f4, ev, 1, rfl, (by show 2 ≤ sizeLine; decide), fun l2 hl2 => ?_⟩
      generalize hX : upd H4 l2 _ = H5
      obtain ⟨S5, f5⟩ := alloc hl2 hX
      clear hX
      have g5 := (g1.trans (g2.trans g3)).same (S4.trans S5)
      have nl : l2 ≠ p := Ne.symm (((g1.trans (g2.trans g3)).same S4).ne_new hl2)
      refine ⟨_, rfl, p, c, _, _, rfl, g5.pen, g5.cel, by omega, by decide, by decide, fun H6 r6 g6 a6 b6 => ?_⟩
      obtain ⟨v, hv, ev⟩ := atI_lt (xs := [V.int 1, V.int (-1)]) a6 b6
      obtain ⟨z, rfl, z1, z2⟩ := sgn (x := v) (ys := []) a6 b6 ev
      refine ⟨l2, _, _, _, rfl, rfl, g6.but.seqL nl (SqL.of f5), ev, _, _, rfl, rfl, .inr ⟨by omega, by omega⟩, k _ _ ((g5.trans g6).mono (by omega))⟩
    · have t : ¬ r1 < 4 := fun h => t (decide_eq_true h)
      refine ⟨_, rfl, p, c, _, _, rfl, g1.pen, g1.cel, by omega, by decide, by decide, fun H2 r2 g2 a2 b2 => ?_⟩
      refine ⟨_, _, rfl, rfl, (by show 2 ≤ sizeLine; decide), fun l hl => ?_⟩
      generalize hX : upd H2 l _ = H4
      obtain ⟨S4, f4⟩ := alloc hl hX
      clear hX
      obtain ⟨v, hv, ev⟩ := atI_lt (xs := [V.int 4, V.int (1 + r2)]) (i := r1 - 4) (by omega) (by show _ < (2 : Int); omega)
      obtain ⟨i, rfl, i1, i2⟩ : ∃ i : Int, v = V.int i ∧ 0 ≤ i ∧ i ≤ 4 := by
        have z : v = V.int 4 ∨ v = V.int (1 + r2) := by simpa using hv
        rcases z with rfl | rfl
        · exact ⟨_, rfl, by decide, by decide⟩
        · exact ⟨_, rfl, by omega, by omega⟩
      refine ⟨_, rfl, _, _, rfl, rfl, l, _, _, _, rfl, rfl, SqL.of f4, ev, i, rfl, by omega, by omega, ?_⟩
      have g4 := (g1.trans g2).same S4
      refine for_it walk_range (fun j σ H' => ∃ (f : Int) (x3 : Option V), σ = [some (.ref p), some (.int r1), some (.int f), x3] ∧ Go K p c H (n + 2 + j) H') ⟨0, none, rfl, g4⟩ (fun _ _ _ _ _ => trivial) ?_ ?_
      · rintro j x σ _ H5 hj ⟨f, x3, rfl, g5⟩ ⟨rfl, rfl⟩
        refine ⟨_, rfl, _, _, rfl, rfl, ⟨by decide, by decide, by decide⟩, _, _, rfl, rfl, .inr ⟨by decide, by decide⟩, ?_⟩
        refine ⟨_, rfl, _, _, rfl, rfl, ⟨by decide, by decide, by decide⟩, p, c, _, _, rfl, g5.pen, g5.cel, by omega, by decide, by decide, fun H6 r6 g6 a6 b6 => ?_⟩
        exact ⟨_, _, rfl, rfl, _, _, rfl, (g5.trans g6).mono (by omega)⟩
      · rintro σ H5 ⟨f, x3, rfl, g5⟩
        refine ⟨_, rfl, 1, rfl, (by show 2 ≤ sizeLine; decide), fun l2 hl2 => ?_⟩
        generalize hX : upd H5 l2 _ = H6
        obtain ⟨S6, f6⟩ := alloc hl2 hX
        clear hX
        have nl : l2 ≠ p := Ne.symm (g5.ne_new hl2)
        have g6 := g5.same S6
        refine ⟨_, rfl, p, c, _, _, rfl, g6.pen, g6.cel, by omega, by decide, by decide, fun H7 r7 g7 a7 b7 => ?_⟩
        obtain ⟨v, hv, ev⟩ := atI_lt (xs := [V.int 1, V.int (-1)]) a7 b7
        obtain ⟨z, rfl, z1, z2⟩ := sgn (x := v) (ys := []) a7 b7 ev
        refine ⟨l2, _, _, _, rfl, rfl, g7.but.seqL nl (SqL.of f6), ev, _, _, rfl, rfl, .inr ⟨by omega, by omega⟩, k _ _ ((g6.trans g7).mono (by omega))⟩
def spTurn (K : PySem.W.Frag) : Sp := fun vs H Q _ => ∃ (p c : Addr) (n : Nat), vs = [.ref p] ∧ PenAt H p c n ∧ Cells K H p c ∧ n ≤ 90000 ∧ ∀ H' i, Go K p c H (n + 3) H' → -999 ≤ i → i ≤ 999 → Q (.int i) H'
theorem ok_turn (T : Txt w K mg) : FnOk P w K mg base CX0 2 T.a_turn T.d_turn ["_law_pen_here"] (spTurn K) := by
  have G_take := ok_take (P := P) (base := base) T
  refine T.F_turn.ok sc_turn (fun vs H Q E h => ?_) (fun cdv A outer s H vs Q E hr h => ?_)
  · obtain ⟨p, c, n, rfl, _⟩ := h
    rfl
  · obtain ⟨p, c, n, rfl, hp, hc, hn, k⟩ := h
    have hr_take := hr
    refine ⟨_, (pss_one (ps_ret (pe_ix (kx_list K) (pe_lst (pa_cons pe_int (pa_cons pe_int (pa_cons (pe_op op_sub (pe_call G_take hr_take (by rfl) T.g_take T.F_take.kp T.b_take .nil pass0 (pa_cons (pv 0) (pa_cons pe_int pa_nil))) pe_int) (pa_cons pe_int (pa_cons (pe_un un_neg pe_int) (pa_cons (pe_op op_sub (pe_call G_take hr_take (by rfl) T.g_take T.F_take.kp T.b_take .nil pass0 (pa_cons (pv 0) (pa_cons pe_int pa_nil))) pe_int) pa_nil))))))) (pe_call G_take hr_take (by rfl) T.g_take T.F_take.kp T.b_take .nil pass0 (pa_cons (pv 0) (pa_cons pe_int pa_nil))) (fun _ _ => rfl)))), ?_⟩
    refine ⟨_, rfl, p, c, n, 9, rfl, hp, hc, by omega, by decide, by decide, fun H1 r1 g1 a1 b1 => ?_⟩
    refine ⟨_, _, rfl, rfl, 999, rfl, _, rfl, p, c, _, 1999, rfl, g1.pen, g1.cel, by omega, by decide, by decide, fun H2 r2 g2 a2 b2 => ?_⟩
    refine ⟨_, _, rfl, rfl, (by show 6 ≤ sizeLine; decide), fun l hl => ?_⟩
    generalize hX : upd H2 l _ = H3
    obtain ⟨S3, f3⟩ := alloc hl hX
    clear hX
    have g3 := (g1.trans g2).same S3
    have nl : l ≠ p := Ne.symm ((g1.trans g2).ne_new hl)
    refine ⟨_, rfl, p, c, _, _, rfl, g3.pen, g3.cel, by omega, by decide, by decide, fun H4 r4 g4 a4 b4 => ?_⟩
    obtain ⟨v, hv, ev⟩ := atI_lt (xs := [V.int 0, V.int 1, V.int (r1 - 4), V.int 999, V.int (-999), V.int (r2 - 999)]) a4 b4
    obtain ⟨i, rfl, i1, i2⟩ : ∃ i : Int, v = V.int i ∧ -999 ≤ i ∧ i ≤ 999 := by
      have z : v = V.int 0 ∨ v = V.int 1 ∨ v = V.int (r1 - 4) ∨ v = V.int 999 ∨ v = V.int (-999) ∨ v = V.int (r2 - 999) := by simpa using hv
      rcases z with z | z | z | z | z | z <;> exact ⟨_, z, by omega, by omega⟩
    exact ⟨l, _, _, _, rfl, rfl, g4.but.seqL nl (SqL.of f3), ev, k _ _ ((g3.trans g4).mono (by omega)) i1 i2⟩
def spStep (K : PySem.W.Frag) : Sp := fun vs H Q _ => ∃ (p c : Addr) (n : Nat), vs = [.ref p] ∧ PenAt H p c n ∧ Cells K H p c ∧ n ≤ 90000 ∧ ∀ H' i, Go K p c H (n + 2) H' → 1 ≤ i → i ≤ 60 → Q (.int i) H'
theorem ok_step (T : Txt w K mg) : FnOk P w K mg base CX0 2 T.a_step T.d_step ["_law_pen_here"] (spStep K) := by
  have G_take := ok_take (P := P) (base := base) T
  refine T.F_step.ok sc_step (fun vs H Q E h => ?_) (fun cdv A outer s H vs Q E hr h => ?_)
  · obtain ⟨p, c, n, rfl, _⟩ := h
    rfl
  · obtain ⟨p, c, n, rfl, hp, hc, hn, k⟩ := h
    have hr_take := hr
    refine ⟨_, (pss_one (ps_ret (pe_ix (kx_list K) (pe_lst (pa_cons pe_int (pa_cons pe_int (pa_cons pe_int (pa_cons pe_int (pa_cons pe_int (pa_cons (pe_op op_add pe_int (pe_call G_take hr_take (by rfl) T.g_take T.F_take.kp T.b_take .nil pass0 (pa_cons (pv 0) (pa_cons pe_int pa_nil)))) (pa_cons pe_int (pa_cons pe_int pa_nil))))))))) (pe_call G_take hr_take (by rfl) T.g_take T.F_take.kp T.b_take .nil pass0 (pa_cons (pv 0) (pa_cons pe_int pa_nil))) (fun _ _ => rfl)))), ?_⟩
    refine ⟨_, rfl, p, c, n, 60, rfl, hp, hc, by omega, by decide, by decide, fun H1 r1 g1 a1 b1 => ?_⟩
    refine ⟨_, _, rfl, rfl, (by show 8 ≤ sizeLine; decide), fun l hl => ?_⟩
    generalize hX : upd H1 l _ = H2
    obtain ⟨S2, f2⟩ := alloc hl hX
    clear hX
    have nl : l ≠ p := Ne.symm (g1.ne_new hl)
    have g2 := g1.same S2
    refine ⟨_, rfl, p, c, _, _, rfl, g2.pen, g2.cel, by omega, by decide, by decide, fun H3 r3 g3 a3 b3 => ?_⟩
    obtain ⟨v, hv, ev⟩ := atI_lt (xs := [V.int 1, V.int 60, V.int 45, V.int 6, V.int 12, V.int (1 + r1), V.int 2, V.int 3]) a3 b3
    obtain ⟨i, rfl, i1, i2⟩ : ∃ i : Int, v = V.int i ∧ 1 ≤ i ∧ i ≤ 60 := by
      have z : v = V.int 1 ∨ v = V.int 60 ∨ v = V.int 45 ∨ v = V.int 6 ∨ v = V.int 12 ∨ v = V.int (1 + r1) ∨ v = V.int 2 ∨ v = V.int 3 := by simpa using hv
      rcases z with z | z | z | z | z | z | z | z <;> exact ⟨_, z, by omega, by omega⟩
    exact ⟨l, _, _, _, rfl, rfl, g3.but.seqL nl (SqL.of f2), ev, k _ _ ((g2.trans g3).mono (by omega)) i1 i2⟩
/-- a ship stands at a -/
def BoatAt (K : PySem.W.Frag) (H : Hp) (a : Addr) (b : Boat) : Prop := SqT K H a [.int b.x, .int b.y, .int b.s]
theorem BoatAt.same {K : PySem.W.Frag} {H H' : Hp} {a : Addr} {b : Boat} (h : BoatAt K H a b) (s : Same H H') : BoatAt K H' a b := same_seqT s h
def spShip (K : PySem.W.Frag) : Sp := fun vs H Q _ => ∃ (p c : Addr) (n : Nat) (i : Int), vs = [.ref p, .int i] ∧ PenAt H p c n ∧ Cells K H p c ∧ n ≤ 80000 ∧ 1 ≤ i ∧ i ≤ 60 ∧ ∀ H' a b, Go K p c H (n + 30) H' → H a = none → BoatAt K H' a b → Q (.ref a) H'
theorem ok_ship (T : Txt w K mg) : FnOk P w K mg base CX0 3 T.a_ship T.d_ship ["_law_pen_here", "_law_point"] (spShip K) := by
  have G_take := ok_take (P := P) (base := base) T
  have G_far := ok_far (P := P) (base := base) T
  refine T.F_ship.ok sc_ship (fun vs H Q E h => ?_) (fun cdv A outer s H vs Q E hr h => ?_)
  · obtain ⟨p, c, n, i, rfl, _⟩ := h
    rfl
  · obtain ⟨p, c, n, i, rfl, hp, hc, hn, i1, i2, k⟩ := h
    have hr_take := hr.mono (show 1 ≤ 2 by decide)
    have hr_far := hr
    refine ⟨_, (pss_cons (ps_set (i := 2) sc_ship.nd rfl (by first | exact Or.inl rfl | exact Or.inr rfl) (pe_op op_sub (pe_op op_add (pe_op op_mul (pv 1) (pe_op op_sub (pe_call G_take hr_take (by rfl) T.g_take T.F_take.kp T.b_take .nil pass0 (pa_cons (pv 0) (pa_cons pe_int pa_nil))) pe_int)) (pe_call G_take hr_take (by rfl) T.g_take T.F_take.kp T.b_take .nil pass0 (pa_cons (pv 0) (pa_cons pe_int pa_nil)))) pe_int))
  (pss_one (ps_ret (pe_tup (pa_cons (pe_call G_far hr_far (by rfl) T.g_far T.F_far.kp T.b_far .nil pass0 (pa_cons (pv 0) pa_nil)) (pa_cons (pe_call G_far hr_far (by rfl) T.g_far T.F_far.kp T.b_far .nil pass0 (pa_cons (pv 0) pa_nil)) (pa_cons (pe_ix (kx_list K) (pe_lst (pa_cons (pv 2) (pa_cons (pv 2) (pa_cons (pe_call G_far hr_far (by rfl) T.g_far T.F_far.kp T.b_far .nil pass0 (pa_cons (pv 0) pa_nil)) pa_nil)))) (pe_call G_take hr_take (by rfl) T.g_take T.F_take.kp T.b_take .nil pass0 (pa_cons (pv 0) (pa_cons pe_int pa_nil))) (fun _ _ => rfl)) pa_nil))))))), ?_⟩
    refine ⟨_, rfl, _, rfl, p, c, n, 40, rfl, hp, hc, by omega, by decide, by decide, fun H1 r1 g1 a1 b1 => ?_⟩
    refine ⟨_, _, rfl, rfl, _, _, rfl, rfl, .inl ⟨by omega, by omega⟩, ?_⟩
    refine ⟨_, rfl, p, c, _, 3, rfl, g1.pen, g1.cel, by omega, by decide, by decide, fun H2 r2 g2 a2 b2 => ?_⟩
    refine ⟨_, _, rfl, rfl, _, _, rfl, rfl, ?_⟩
    have g := g1.trans g2
    refine ⟨_, rfl, p, c, _, rfl, g.pen, g.cel, by omega, fun H3 x g3 => ?_⟩
    refine ⟨_, rfl, p, c, _, rfl, g3.pen, g3.cel, by omega, fun H4 y g4 => ?_⟩
    refine ⟨_, rfl, _, rfl, _, rfl, p, c, _, rfl, g4.pen, g4.cel, by omega, fun H5 z g5 => ?_⟩
    refine ⟨(by show 3 ≤ sizeLine; decide), fun l hl => ?_⟩
    generalize hX : upd H5 l _ = H6
    obtain ⟨S6, f6⟩ := alloc hl hX
    clear hX
    have g6 := (g.trans (g3.trans (g4.trans g5))).same S6
    have nl : l ≠ p := Ne.symm ((g.trans (g3.trans (g4.trans g5))).ne_new hl)
    refine ⟨_, rfl, p, c, _, 3, rfl, g6.pen, g6.cel, by omega, by decide, by decide, fun H7 r7 g7 a7 b7 => ?_⟩
    obtain ⟨v, hv, ev⟩ := atI_lt (xs := [V.int (i * (r1 - 20) + r2 - 1), V.int (i * (r1 - 20) + r2 - 1), V.int z]) a7 b7
    obtain ⟨s, rfl⟩ : ∃ s : Int, v = V.int s := by
      have z : v = V.int (i * (r1 - 20) + r2 - 1) ∨ v = V.int z := by simpa using hv
      rcases z with z | z <;> exact ⟨_, z⟩
    refine ⟨l, _, _, _, rfl, rfl, g7.but.seqL nl (SqL.of f6), ev, (by show 3 ≤ sizeLine; decide), fun a ha => ?_⟩
    generalize hX : upd H7 a _ = H8
    obtain ⟨S8, f8⟩ := alloc ha hX
    clear hX
    exact k _ a ⟨x, y, s⟩ (((g6.trans g7).same S8).mono (by omega)) ((g6.trans g7).free ha) (SqT.of f8)
/-! ### the law's own minute -/
theorem ways_at {K : PySem.W.Frag} {H : Hp} {q0 q1 q2 q3 q4 q5 q6 q7 : Addr} (s p : Int)
    (t0 : SqT K H q0 [.int 0, .int 1]) (t1 : SqT K H q1 [.int 1, .int 1]) (t2 : SqT K H q2 [.int 1, .int 0]) (t3 : SqT K H q3 [.int 1, .int (-1)])
    (t4 : SqT K H q4 [.int 0, .int (-1)]) (t5 : SqT K H q5 [.int (-1), .int (-1)]) (t6 : SqT K H q6 [.int (-1), .int 0]) (t7 : SqT K H q7 [.int (-1), .int 1]) :
    ∃ a, atI [V.ref q0, V.ref q1, V.ref q2, V.ref q3, V.ref q4, V.ref q5, V.ref q6, V.ref q7] (hdg s p) = some (V.ref a) ∧ SqT K H a [.int (dx s p), .int (dy s p)] := by
  obtain ⟨h0, h1⟩ := hdg_range s p
  unfold dx dy
  generalize hdg s p = h at *
  obtain ⟨j, rfl⟩ := Int.eq_ofNat_of_zero_le h0
  match j, h1 with
  | 0, _ => exact ⟨q0, rfl, t0⟩
  | 1, _ => exact ⟨q1, rfl, t1⟩
  | 2, _ => exact ⟨q2, rfl, t2⟩
  | 3, _ => exact ⟨q3, rfl, t3⟩
  | 4, _ => exact ⟨q4, rfl, t4⟩
  | 5, _ => exact ⟨q5, rfl, t5⟩
  | 6, _ => exact ⟨q6, rfl, t6⟩
  | 7, _ => exact ⟨q7, rfl, t7⟩
  | n + 8, h1 => omega
theorem hdg_own (s p : Int) (hp : 0 < p) : (s - s % p) / p % 8 = hdg s p := by
  unfold hdg
  congr 1
  have e := Int.emod_add_mul_ediv s p
  rw [show s - s % p = p * (s / p) by omega, Int.mul_ediv_cancel_left _ (by omega)]
theorem d_range (s p : Int) : (-1 ≤ dx s p ∧ dx s p ≤ 1) ∧ -1 ≤ dy s p ∧ dy s p ≤ 1 := by
  obtain ⟨h0, h1⟩ := hdg_range s p
  unfold dx dy
  generalize hdg s p = h at *
  obtain ⟨j, rfl⟩ := Int.eq_ofNat_of_zero_le h0
  match j, h1 with
  | 0, _ => decide
  | 1, _ => decide
  | 2, _ => decide
  | 3, _ => decide
  | 4, _ => decide
  | 5, _ => decide
  | 6, _ => decide
  | 7, _ => decide
  | n + 8, h1 => omega
theorem zsum_1 (f : Int → Int) : zsum f 1 = f 0 := by
  have h := zsum_succ f 0
  rw [zsum_0] at h
  show zsum f (0 + 1) = _
  omega
theorem sailed_1 (b : Boat) (l s p : Int) : sailed b l s 1 p = ⟨b.x + (l + s) * dx b.s p, b.y + (l + s) * dy b.s p, b.s + l - s⟩ := by
  unfold sailed
  rw [zsum_1, zsum_1, Int.zero_mul, Int.add_zero, Int.one_mul, Int.add_sub_assoc]
def spOn1 (K : PySem.W.Frag) : Sp := fun vs H Q _ => ∃ (a : Addr) (b : Boat) (l s p : Int), vs = [.ref a, .int l, .int s, .int p] ∧ BoatAt K H a b ∧ 1 ≤ p ∧ p ≤ 60 ∧
  ∀ H' q, Same H H' → BoatAt K H' q (sailed b l s 1 p) → Q (.ref q) H'
theorem ok_minute_on (T : Txt w K mg) : FnOk P w K mg base CX0 1 T.a_minute_on T.d_minute_on ["_law_boat", "_law_larboard", "_law_starboard", "_law_point"] (spOn1 K) := by
  refine T.F_minute_on.ok sc_minute_on (fun vs H Q E h => ?_) (fun cdv A outer s H vs Q E hr h => ?_)
  · obtain ⟨a, b, l, s, p, rfl, _⟩ := h
    rfl
  · obtain ⟨a, b, l, s, p, rfl, hb, p1, p2, k⟩ := h
    refine ⟨_, (pss_cons (ps_set (i := 4) sc_minute_on.nd rfl (by first | exact Or.inl rfl | exact Or.inr rfl) (pe_lst (pa_cons (pe_tup (pa_cons pe_int (pa_cons pe_int pa_nil))) (pa_cons (pe_tup (pa_cons pe_int (pa_cons pe_int pa_nil))) (pa_cons (pe_tup (pa_cons pe_int (pa_cons pe_int pa_nil))) (pa_cons (pe_tup (pa_cons pe_int (pa_cons (pe_un un_neg pe_int) pa_nil))) (pa_cons (pe_tup (pa_cons pe_int (pa_cons (pe_un un_neg pe_int) pa_nil))) (pa_cons (pe_tup (pa_cons (pe_un un_neg pe_int) (pa_cons (pe_un un_neg pe_int) pa_nil))) (pa_cons (pe_tup (pa_cons (pe_un un_neg pe_int) (pa_cons pe_int pa_nil))) (pa_cons (pe_tup (pa_cons (pe_un un_neg pe_int) (pa_cons pe_int pa_nil))) pa_nil))))))))))
  (pss_cons (ps_asg (pv 0) (k_pgT (n := 3) K rfl (pgs_cons (pg_name (i := 5) sc_minute_on.nd rfl (by first | exact Or.inl rfl | exact Or.inr rfl)) (pgs_cons (pg_name (i := 6) sc_minute_on.nd rfl (by first | exact Or.inl rfl | exact Or.inr rfl)) (pgs_cons (pg_name (i := 7) sc_minute_on.nd rfl (by first | exact Or.inl rfl | exact Or.inr rfl)) pgs_nil)))))
  (pss_cons (ps_set (i := 8) sc_minute_on.nd rfl (by first | exact Or.inl rfl | exact Or.inr rfl) (pe_ix (kx_list K) (pv 4) (pe_op op_mod (pe_op op_fdiv (pe_op op_sub (pv 7) (pe_op op_mod (pv 7) (pv 3))) (pv 3)) pe_int) (fun _ _ => rfl)))
  (pss_one (ps_ret (pe_tup (pa_cons (pe_op op_add (pv 5) (pe_op op_mul (pe_op op_add (pv 1) (pv 2)) (pe_ix (kx_tup K) (pv 8) pe_int (fun _ _ => rfl)))) (pa_cons (pe_op op_add (pv 6) (pe_op op_mul (pe_op op_add (pv 1) (pv 2)) (pe_ix (kx_tup K) (pv 8) pe_int (fun _ _ => rfl)))) (pa_cons (pe_op op_sub (pe_op op_add (pv 7) (pv 1)) (pv 2)) pa_nil))))))))), ?_⟩
    refine ⟨(by show 2 ≤ sizeLine; decide), fun q0 hq0 => ?_⟩
    generalize hX : upd H q0 _ = H1
    obtain ⟨S1, f1⟩ := alloc hq0 hX
    clear hX
    refine ⟨(by show 2 ≤ sizeLine; decide), fun q1 hq1 => ?_⟩
    generalize hX : upd H1 q1 _ = H2
    obtain ⟨S2, f2⟩ := alloc hq1 hX
    clear hX
    refine ⟨(by show 2 ≤ sizeLine; decide), fun q2 hq2 => ?_⟩
    generalize hX : upd H2 q2 _ = H3
    obtain ⟨S3, f3⟩ := alloc hq2 hX
    clear hX
    refine ⟨1, rfl, (by show 2 ≤ sizeLine; decide), fun q3 hq3 => ?_⟩
    generalize hX : upd H3 q3 _ = H4
    obtain ⟨S4, f4⟩ := alloc hq3 hX
    clear hX
    refine ⟨1, rfl, (by show 2 ≤ sizeLine; decide), fun q4 hq4 => ?_⟩
    generalize hX : upd H4 q4 _ = H5
    obtain ⟨S5, f5⟩ := alloc hq4 hX
    clear hX
    refine ⟨1, rfl, 1, rfl, (by show 2 ≤ sizeLine; decide), fun q5 hq5 => ?_⟩
    generalize hX : upd H5 q5 _ = H6
    obtain ⟨S6, f6⟩ := alloc hq5 hX
    clear hX
    refine ⟨1, rfl, (by show 2 ≤ sizeLine; decide), fun q6 hq6 => ?_⟩
    generalize hX : upd H6 q6 _ = H7
    obtain ⟨S7, f7⟩ := alloc hq6 hX
    clear hX
    refine ⟨1, rfl, (by show 2 ≤ sizeLine; decide), fun q7 hq7 => ?_⟩
    generalize hX : upd H7 q7 _ = H8
    obtain ⟨S8, f8⟩ := alloc hq7 hX
    clear hX
    refine ⟨(by show 8 ≤ sizeLine; decide), fun q8 hq8 => ?_⟩
    generalize hX : upd H8 q8 _ = H9
    obtain ⟨S9, f9⟩ := alloc hq8 hX
    clear hX
    have t0 := SqT.of (K := K) ((S2.trans (S3.trans (S4.trans (S5.trans (S6.trans (S7.trans (S8.trans S9))))))) _ _ f1)
    have t1 := SqT.of (K := K) ((S3.trans (S4.trans (S5.trans (S6.trans (S7.trans (S8.trans S9)))))) _ _ f2)
    have t2 := SqT.of (K := K) ((S4.trans (S5.trans (S6.trans (S7.trans (S8.trans S9))))) _ _ f3)
    have t3 := SqT.of (K := K) ((S5.trans (S6.trans (S7.trans (S8.trans S9)))) _ _ f4)
    have t4 := SqT.of (K := K) ((S6.trans (S7.trans (S8.trans S9))) _ _ f5)
    have t5 := SqT.of (K := K) ((S7.trans (S8.trans S9)) _ _ f6)
    have t6 := SqT.of (K := K) ((S8.trans S9) _ _ f7)
    have t7 := SqT.of (K := K) (S9 _ _ f8)
    have S := (S1.trans (S2.trans (S3.trans (S4.trans (S5.trans (S6.trans (S7.trans (S8.trans S9))))))))
    have hb9 := hb.same S
    refine ⟨_, rfl, a, _, rfl, hb9, rfl, _, _, rfl, _, _, rfl, _, _, rfl, rfl, ?_⟩
    obtain ⟨wa, hw, tw⟩ := ways_at b.s p t0 t1 t2 t3 t4 t5 t6 t7
    rw [← hdg_own _ _ (by omega)] at hw
    refine ⟨_, rfl, _, rfl, _, rfl, _, rfl, _, _, rfl, rfl, (by omega), _, _, rfl, rfl, _, rfl, _, _, rfl, rfl, ⟨by omega, by omega⟩, _, _, rfl, rfl, (show (0 : Int) < 8 by decide), q8, _, _, _, rfl, rfl, SqL.of f9, hw, ?_⟩
    obtain ⟨⟨x1, x2⟩, y1, y2⟩ := d_range b.s p
    refine ⟨_, rfl, _, rfl, _, rfl, _, _, rfl, rfl, _, rfl, wa, _, _, _, rfl, rfl, tw, rfl, _, _, rfl, rfl, .inr ⟨by omega, by omega⟩, _, _, rfl, rfl, ?_⟩
    refine ⟨_, rfl, _, rfl, _, rfl, _, _, rfl, rfl, _, rfl, wa, _, _, _, rfl, rfl, tw, rfl, _, _, rfl, rfl, .inr ⟨by omega, by omega⟩, _, _, rfl, rfl, ?_⟩
    refine ⟨_, rfl, _, rfl, _, _, rfl, rfl, _, rfl, _, _, rfl, rfl, (by show 3 ≤ sizeLine; decide), fun q hq => ?_⟩
    generalize hX : upd H9 q _ = H10
    obtain ⟨S10, f10⟩ := alloc hq hX
    clear hX
    refine k _ q (S.trans S10) ?_
    rw [sailed_1]
    exact SqT.of f10
def spPlain (K : PySem.W.Frag) : Sp := fun vs H Q _ => ∃ (a : Addr) (b : Boat), vs = [.ref a] ∧ BoatAt K H a b ∧ ∀ H', Same H H' → Q (.bl true) H'
theorem ok_plain (T : Txt w K mg) : FnOk P w K mg base CX0 1 T.a_plain T.d_plain ["_law_found"] (spPlain K) := by
  refine T.F_plain.ok sc_plain (fun vs H Q E h => ?_) (fun cdv A outer s H vs Q E hr h => ?_)
  · obtain ⟨a, b, rfl, _⟩ := h
    rfl
  · obtain ⟨a, b, rfl, hb, k⟩ := h
    refine ⟨_, (pss_cons (ps_if (PW.pt (pw_or (pt_not (pt_val (pe_callB (k_isi K) (by rfl) T.z_isinstance (by decide +kernel) (pa_cons (pv 0) (pa_cons (pe_bltn (v := .ty "tuple") (by rfl) T.z_tuple (by decide +kernel) rfl) pa_nil))))) (pw_or1 (pt_cmpR op_ne (pe_callB (k_len K) (by rfl) T.z_len (by decide +kernel) (pa_cons (pv 0) pa_nil)) pe_int (nomark _))))) (pss_one (ps_ret pe_bl)) pss_nil)
  (pss_one (ps_ret (pe_cmpR (k_eqD K hr.units) (pe_lc (own := [("_law_one", 1)]) rfl sc_plain.nd (k_piT K (pv 0)) (blkOk_by (own := [("_law_one", 1)]) (N := ["_law_found", "_law_one"]) (sc := defScope s_plain) (by decide +kernel)) (fun _ _ _ _ _ => (pg_name (i := 1) sc_plain.nd rfl (by first | exact Or.inl rfl | exact Or.inr rfl))) (fun _ _ _ _ _ => (pts_one (PW.pt (pw_or (pt_not (pt_val (pe_callB (k_isi K) (by rfl) T.z_isinstance (by decide +kernel) (pa_cons (pv 1) (pa_cons (pe_bltn (v := .ty "int") (by rfl) T.z_int (by decide +kernel) rfl) pa_nil))))) (pw_or1 (pt_val (pe_callB (k_isi K) (by rfl) T.z_isinstance (by decide +kernel) (pa_cons (pv 1) (pa_cons (pe_bltn (v := .ty "bool") (by rfl) T.z_bool (by decide +kernel) rfl) pa_nil))))))))) (fun _ _ _ _ _ => (pv 1))) (pe_lst pa_nil) (nomark _))))), ?_⟩
    refine ⟨_, rfl, _, _, _, _, true, rfl, ClsV.ty "tuple", seqT_ty hb, kit_ty (by decide +kernel), _, rfl, ?_⟩
    show if false = true then _ else _
    refine ⟨_, rfl, a, _, rfl, .inr hb, rfl, _, rfl, ?_⟩
    show if false = true then _ else _
    refine ⟨_, rfl, a, rfl, ⟨_, hb⟩, fun D hD => ?_⟩
    refine lc_it walk_tup (fun i H' => Same H H' ∧ H' D = some (.lst [])) ⟨same_new (Same.refl _) hD, upd_same⟩ (fun i H' _ q => same_seqT q.1 hb) ?_ ?_
    · rintro i x H2 H3 hi ⟨s2, e2⟩ ⟨rfl, hx⟩
      obtain ⟨z, rfl⟩ : ∃ z : Int, x = V.int z := by
        have q : x = V.int b.x ∨ x = V.int b.y ∨ x = V.int b.s := by simpa using List.mem_of_getElem? hx
        rcases q with q | q | q <;> exact ⟨_, q⟩
      refine ⟨rfl, _, rfl, _, _, _, _, true, rfl, ClsV.ty "int", TyX.base (TyOf.int z), kit_ty (by decide +kernel), _, rfl, ?_⟩
      show if false = true then _ else _
      refine ⟨_, rfl, _, _, _, _, false, rfl, ClsV.ty "bool", TyX.base (TyOf.int z), kit_ty (by decide +kernel), _, rfl, ?_⟩
      exact ⟨s2, e2⟩
    · rintro H2 ⟨s2, e2⟩
      refine ⟨(by show 0 ≤ sizeLine; decide), fun l hl => ?_⟩
      generalize hX : upd H2 l _ = H3
      obtain ⟨S3, f3⟩ := alloc hl hX
      clear hX
      refine ⟨.list [], .list [], .lst (SqL.of (S3 _ _ e2)) .nil, .lst (SqL.of f3) .nil, by decide +kernel, by decide +kernel, ?_⟩
      exact k _ (s2.trans S3)
/-! ### the program: headings and sailing -/
def spHead (K : PySem.W.Frag) : Sp := fun vs H Q _ => ∃ s p : Int, vs = [.int s, .int p] ∧ 1 ≤ p ∧ p ≤ 1000 ∧ Q (.int (hdg s p)) H
theorem ok_heading (T : Txt w K mg) : FnOk P w K mg base CX0 1 T.a_heading T.d_heading ["swing", "step"] (spHead K) := by
  refine T.F_heading.ok sc_heading (fun vs H Q E h => ?_) (fun cdv A outer s H vs Q E hr h => ?_)
  · obtain ⟨s, p, rfl, _⟩ := h
    rfl
  · obtain ⟨s, p, rfl, p1, p2, k⟩ := h
    refine ⟨_, (pss_one (ps_ret (pe_op op_mod (pe_op op_fdiv (pv 0) (pv 1)) (pe_callB (k_len K) (by rfl) T.z_len (by decide +kernel) (pa_cons (pe_glob (v := .ref T.D_HEADINGS) (by rfl) T.c_HEADINGS rfl) pa_nil))))), ?_⟩
    exact ⟨_, rfl, _, rfl, _, _, rfl, rfl, ⟨by omega, by omega⟩, T.D_HEADINGS, _, rfl, .inr (T.kt_HEADINGS H), _, _, rfl, rfl, (show (0 : Int) < 8 by decide), k⟩
theorem nsum_range {f : Int → Int} (h : ∀ i, -1 ≤ f i ∧ f i ≤ 1) (n : Nat) : -(n : Int) ≤ nsum f n ∧ nsum f n ≤ n := by
  induction n with
  | zero => exact ⟨Int.le_refl _, Int.le_refl _⟩
  | succ n ih =>
    have := h n
    show -((n + 1 : Nat) : Int) ≤ nsum f n + f n ∧ nsum f n + f n ≤ ((n + 1 : Nat) : Int)
    omega
def spWay (K : PySem.W.Frag) : Sp := fun vs H Q _ => ∃ s v n p : Int, vs = [.int s, .int v, .int n, .int p] ∧ 1 ≤ p ∧ p ≤ 1000 ∧ 0 ≤ n ∧ n ≤ 8000 ∧
  ∀ H' q, Same H H' → SqT K H' q [.int (nsum (fun i => dx (s + i * v) p) n.toNat), .int (nsum (fun i => dy (s + i * v) p) n.toNat)] → Q (.ref q) H'
theorem ok_way (T : Txt w K mg) : FnOk P w K mg base CX0 2 T.a_way T.d_way ["swing", "veer", "minutes", "step"] (spWay K) := by
  have G_heading := ok_heading (P := P) (base := base) T
  refine T.F_way.ok sc_way (fun vs H Q E h => ?_) (fun cdv A outer s H vs Q E hr h => ?_)
  · obtain ⟨s, v, n, p, rfl, _⟩ := h
    rfl
  · obtain ⟨s, v, n, p, rfl, p1, p2, n1, n2, k⟩ := h
    have hr_heading := hr
    refine ⟨_, (pss_cons (ps_asg2 pe_int (pg_name (i := 4) sc_way.nd rfl (by first | exact Or.inl rfl | exact Or.inr rfl)) (pg_name (i := 5) sc_way.nd rfl (by first | exact Or.inl rfl | exact Or.inr rfl)))
  (pss_cons (ps_for PassesOwn.never rfl (pi_range1 (by rfl) T.z_range (pa_cons (pv 2) pa_nil)) (pg_name (i := 6) sc_way.nd rfl (by first | exact Or.inl rfl | exact Or.inr rfl)) (pss_cons (ps_asg (pe_ix (kx_tup K) (pe_glob (v := .ref T.D_HEADINGS) (by rfl) T.c_HEADINGS rfl) (pe_call G_heading hr_heading (by rfl) T.g_heading T.F_heading.kp T.b2_heading T.v2_heading pass0 (pa_cons (pe_op op_add (pv 0) (pe_op op_mul (pv 6) (pv 1))) (pa_cons (pv 3) pa_nil))) (fun _ _ => rfl)) (k_pgT (n := 2) K rfl (pgs_cons (pg_name (i := 7) sc_way.nd rfl (by first | exact Or.inl rfl | exact Or.inr rfl)) (pgs_cons (pg_name (i := 8) sc_way.nd rfl (by first | exact Or.inl rfl | exact Or.inr rfl)) pgs_nil))))
  (pss_cons (ps_aug (i := 4) sc_way.nd rfl (by first | exact Or.inl rfl | exact Or.inr rfl) (pv 7) ip_add)
  (pss_one (ps_aug (i := 5) sc_way.nd rfl (by first | exact Or.inl rfl | exact Or.inr rfl) (pv 8) ip_add)))))
  (pss_one (ps_ret (pe_tup (pa_cons (pv 4) (pa_cons (pv 5) pa_nil))))))), ?_⟩
    refine ⟨_, rfl, n, rfl, by omega, by omega, ?_⟩
    refine for_it walk_range (fun j σ H' => ∃ (x6 x7 x8 : Option V), σ = [some (.int s), some (.int v), some (.int n), some (.int p), some (.int (nsum (fun i => dx (s + i * v) p) j)), some (.int (nsum (fun i => dy (s + i * v) p) j)), x6, x7, x8] ∧ H' = H)
      ⟨none, none, none, rfl, rfl⟩ (fun _ _ _ _ _ => trivial) ?_ ?_
    · rintro j x σ _ H2 hj ⟨x6, x7, x8, rfl, rfl⟩ ⟨rfl, rfl⟩
      obtain ⟨wa, hw, tw⟩ := ways_at (s + (0 + (j : Int)) * v) p (T.kt0_HEADINGS H2) (T.kt1_HEADINGS H2) (T.kt2_HEADINGS H2) (T.kt3_HEADINGS H2) (T.kt4_HEADINGS H2) (T.kt5_HEADINGS H2) (T.kt6_HEADINGS H2) (T.kt7_HEADINGS H2)
      refine ⟨_, rfl, _, rfl, _, rfl, _, _, rfl, rfl, .inl ⟨by omega, by omega⟩, _, _, rfl, rfl, _, rfl, _, _, rfl, p1, p2, T.D_HEADINGS, _, _, _, rfl, rfl, T.kt_HEADINGS H2, hw, ?_⟩
      rw [Int.zero_add] at tw
      refine ⟨wa, _, rfl, tw, rfl, _, _, rfl, _, _, rfl, rfl, ?_⟩
      refine ⟨_, rfl, _, rfl, _, _, rfl, rfl, ?_⟩
      refine ⟨_, rfl, _, rfl, _, _, rfl, rfl, ?_⟩
      exact ⟨_, _, _, rfl, rfl⟩
    · rintro σ H2 ⟨x6, x7, x8, rfl, rfl⟩
      refine ⟨_, rfl, _, rfl, (by show 2 ≤ sizeLine; decide), fun q hq => ?_⟩
      exact k _ q (same_new (Same.refl _) hq) (SqT.of upd_same)
def spSail (K : PySem.W.Frag) : Sp := fun vs H Q _ => ∃ (a : Addr) (b : Boat) (l s n p : Int), vs = [.ref a, .int l, .int s, .int n, .int p] ∧ BoatAt K H a b ∧ -999 ≤ l ∧ l ≤ 999 ∧ -999 ≤ s ∧ s ≤ 999 ∧ 1 ≤ p ∧ p ≤ 60 ∧
  ∀ H' q, Same H H' → BoatAt K H' q (sailed b l s n p) → Q (.ref q) H'
theorem ok_sail (T : Txt w K mg) : FnOk P w K mg base CX0 3 T.a_sail T.d_sail ["ship", "port", "star", "minutes", "step"] (spSail K) := by
  have G_way := ok_way (P := P) (base := base) T
  refine T.F_sail.ok sc_sail (fun vs H Q E h => ?_) (fun cdv A outer s H vs Q E hr h => ?_)
  · obtain ⟨a, b, l, s, n, p, rfl, _⟩ := h
    rfl
  · obtain ⟨a, b, l, s, n, p, rfl, hb, l1, l2, s1, s2, p1, p2, k⟩ := h
    have hr_way := hr
    refine ⟨_, (pss_cons (ps_asg (pv 0) (k_pgT (n := 3) K rfl (pgs_cons (pg_name (i := 5) sc_sail.nd rfl (by first | exact Or.inl rfl | exact Or.inr rfl)) (pgs_cons (pg_name (i := 6) sc_sail.nd rfl (by first | exact Or.inl rfl | exact Or.inr rfl)) (pgs_cons (pg_name (i := 7) sc_sail.nd rfl (by first | exact Or.inl rfl | exact Or.inr rfl)) pgs_nil)))))
  (pss_cons (ps_set (i := 8) sc_sail.nd rfl (by first | exact Or.inl rfl | exact Or.inr rfl) (pe_op op_sub (pv 1) (pv 2)))
  (pss_cons (ps_set (i := 9) sc_sail.nd rfl (by first | exact Or.inl rfl | exact Or.inr rfl) (pe_op op_mul (pe_callB (k_len K) (by rfl) T.z_len (by decide +kernel) (pa_cons (pe_glob (v := .ref T.D_HEADINGS) (by rfl) T.c_HEADINGS rfl) pa_nil)) (pv 4)))
  (pss_cons (ps_set (i := 10) sc_sail.nd rfl (by first | exact Or.inl rfl | exact Or.inr rfl) (pe_op op_fdiv (pv 9) (pe_callBfun cr_gcd (by rfl) T.i_gcd (pa_cons (pv 8) (pa_cons (pv 9) pa_nil)))))
  (C8.pss_cut (ps_asg (pe_callB call_divmod (by rfl) T.z_divmod (by decide +kernel) (pa_cons (pv 3) (pa_cons (pv 10) pa_nil))) (k_pgT (n := 2) K rfl (pgs_cons (pg_name (i := 11) sc_sail.nd rfl (by first | exact Or.inl rfl | exact Or.inr rfl)) (pgs_cons (pg_name (i := 12) sc_sail.nd rfl (by first | exact Or.inl rfl | exact Or.inr rfl)) pgs_nil))))
  (C8.pss_cut (ps_asg (pe_call G_way hr_way (by rfl) T.g_way T.F_way.kp T.b_way .nil pass0 (pa_cons (pv 7) (pa_cons (pv 8) (pa_cons (pe_ifExp (pt_cmpR op_ne (pv 11) pe_int (nomark _)) (pv 10) pe_int) (pa_cons (pv 4) pa_nil))))) (k_pgT (n := 2) K rfl (pgs_cons (pg_name (i := 13) sc_sail.nd rfl (by first | exact Or.inl rfl | exact Or.inr rfl)) (pgs_cons (pg_name (i := 14) sc_sail.nd rfl (by first | exact Or.inl rfl | exact Or.inr rfl)) pgs_nil))))
  (C8.pss_cut (ps_asg (pe_call G_way hr_way (by rfl) T.g_way T.F_way.kp T.b_way .nil pass0 (pa_cons (pv 7) (pa_cons (pv 8) (pa_cons (pv 12) (pa_cons (pv 4) pa_nil))))) (k_pgT (n := 2) K rfl (pgs_cons (pg_name (i := 15) sc_sail.nd rfl (by first | exact Or.inl rfl | exact Or.inr rfl)) (pgs_cons (pg_name (i := 16) sc_sail.nd rfl (by first | exact Or.inl rfl | exact Or.inr rfl)) pgs_nil))))
  (C8.pss_cut (ps_set (i := 17) sc_sail.nd rfl (by first | exact Or.inl rfl | exact Or.inr rfl) (pe_op op_add (pv 1) (pv 2)))
  (pss_one (ps_ret (pe_tup (pa_cons (pe_op op_add (pv 5) (pe_op op_mul (pv 17) (pe_op op_add (pe_op op_mul (pv 11) (pv 13)) (pv 15)))) (pa_cons (pe_op op_add (pv 6) (pe_op op_mul (pv 17) (pe_op op_add (pe_op op_mul (pv 11) (pv 14)) (pv 16)))) (pa_cons (pe_op op_add (pv 7) (pe_op op_mul (pv 3) (pv 8))) pa_nil)))))))))))))), ?_⟩
    refine ⟨_, rfl, a, _, rfl, hb, rfl, _, _, rfl, _, _, rfl, _, _, rfl, rfl, ?_⟩
    refine ⟨_, rfl, _, rfl, _, _, rfl, rfl, ?_⟩
    refine ⟨T.D_HEADINGS, _, rfl, .inr (T.kt_HEADINGS H), _, rfl, _, _, rfl, rfl, .inl ⟨(show -(2 ^ 64) < (8 : Int) by decide), (show (8 : Int) < 2 ^ 64 by decide)⟩, ?_⟩
    obtain ⟨m1, m2, mk⟩ := roundOf_spec (p := p) (by omega) (l - s)
    have mg : (8 : Int) * p / ((Nat.gcd (l - s).natAbs (8 * p).natAbs : Nat) : Int) = roundOf (l - s) p := rfl
    have gp : 0 < Nat.gcd (l - s).natAbs (8 * p).natAbs := Nat.gcd_pos_of_pos_right _ (by omega)
    have gl : Nat.gcd (l - s).natAbs (8 * p).natAbs ≤ (8 * p).natAbs := Nat.gcd_le_right _ (by omega)
    refine ⟨_, rfl, _, rfl, _, rfl, _, _, rfl, _, _, rfl, rfl, ⟨by show (0 : Int) < ((Nat.gcd (l - s).natAbs (8 * p).natAbs : Nat) : Int); omega, by show ((Nat.gcd (l - s).natAbs (8 * p).natAbs : Nat) : Int) < _; omega⟩, ?_⟩
    have per := fun (f : Int → Int → Int) h i => round_per (h := f) (p := p) (by omega) h b.s (l - s) i
    have sx := rounds_sum (f := fun i => dx (b.s + i * (l - s)) p) m1 (per dx (fun s k => dx_per (by omega) s k)) n
    have sy := rounds_sum (f := fun i => dy (b.s + i * (l - s)) p) m1 (per dy (fun s k => dy_per (by omega) s k)) n
    have rx := nsum_range (f := fun i => dx (b.s + i * (l - s)) p) (fun i => (d_range _ _).1) (roundOf (l - s) p).toNat
    have ry := nsum_range (f := fun i => dy (b.s + i * (l - s)) p) (fun i => (d_range _ _).2) (roundOf (l - s) p).toNat
    have r0 := Int.emod_nonneg n (show roundOf (l - s) p ≠ 0 by omega)
    have r1 := Int.emod_lt_of_pos n m1
    have bx : -(2 ^ 64) < nsum (fun i => dx (b.s + i * (l - s)) p) (roundOf (l - s) p).toNat ∧ nsum (fun i => dx (b.s + i * (l - s)) p) (roundOf (l - s) p).toNat < 2 ^ 64 := ⟨by omega, by omega⟩
    have by_ : -(2 ^ 64) < nsum (fun i => dy (b.s + i * (l - s)) p) (roundOf (l - s) p).toNat ∧ nsum (fun i => dy (b.s + i * (l - s)) p) (roundOf (l - s) p).toNat < 2 ^ 64 := ⟨by omega, by omega⟩
    refine ⟨fun σ' H' => σ' = [some (.ref a), some (.int l), some (.int s), some (.int n), some (.int p), some (.int b.x), some (.int b.y), some (.int b.s), some (.int (l - s)), some (.int (8 * p)), some (.int (roundOf (l - s) p)), some (.int (n / roundOf (l - s) p)), some (.int (n % roundOf (l - s) p)), none, none, none, none, none] ∧ Same H H', ?_, ?_⟩
    · refine ⟨_, rfl, _, rfl, n, roundOf (l - s) p, rfl, ⟨m1, by omega⟩, fun q0 hq0 => ?_⟩
      generalize hX : upd H q0 _ = H1
      obtain ⟨S1, f1⟩ := alloc hq0 hX
      clear hX
      exact ⟨q0, _, rfl, SqT.of f1, rfl, _, _, rfl, _, _, rfl, rfl, rfl, S1⟩
    rintro σ' H1 ⟨rfl, S1⟩
    refine ⟨fun σ' H' => ∃ X Y : Int, σ' = [some (.ref a), some (.int l), some (.int s), some (.int n), some (.int p), some (.int b.x), some (.int b.y), some (.int b.s), some (.int (l - s)), some (.int (8 * p)), some (.int (roundOf (l - s) p)), some (.int (n / roundOf (l - s) p)), some (.int (n % roundOf (l - s) p)), some (.int X), some (.int Y), none, none, none] ∧ (-(2 ^ 64) < X ∧ X < 2 ^ 64) ∧ (-(2 ^ 64) < Y ∧ Y < 2 ^ 64) ∧ n / roundOf (l - s) p * X = n / roundOf (l - s) p * nsum (fun i => dx (b.s + i * (l - s)) p) (roundOf (l - s) p).toNat ∧ n / roundOf (l - s) p * Y = n / roundOf (l - s) p * nsum (fun i => dy (b.s + i * (l - s)) p) (roundOf (l - s) p).toNat ∧ Same H H', ?_, ?_⟩
    · refine ⟨_, rfl, _, rfl, _, rfl, rfl, _, rfl, ite2 (fun y => ?_) (fun y => ?_)⟩
      · refine ⟨_, rfl, _, rfl, b.s, l - s, roundOf (l - s) p, p, rfl, p1, by omega, by omega, by omega, fun H2 q2 S2 t2 => ?_⟩
        exact ⟨q2, _, rfl, t2, rfl, _, _, rfl, _, _, rfl, rfl, _, _, rfl, bx, by_, rfl, rfl, S1.trans S2⟩
      · have z : n / roundOf (l - s) p = 0 := by
          by_cases c : V.int (n / roundOf (l - s) p) = V.int 0
          · exact V.int.inj c
          · rw [decide_eq_false c] at y
            exact absurd rfl y
        refine ⟨_, rfl, b.s, l - s, 0, p, rfl, p1, by omega, by omega, by omega, fun H2 q2 S2 t2 => ?_⟩
        exact ⟨q2, _, rfl, t2, rfl, _, _, rfl, _, _, rfl, rfl, _, _, rfl, ⟨(by show -(2 ^ 64) < (0 : Int); decide), (by show (0 : Int) < 2 ^ 64; decide)⟩, ⟨(by show -(2 ^ 64) < (0 : Int); decide), (by show (0 : Int) < 2 ^ 64; decide)⟩, by rw [z, Int.zero_mul, Int.zero_mul], by rw [z, Int.zero_mul, Int.zero_mul], S1.trans S2⟩
    rintro σ' H2 ⟨X, Y, rfl, bX, bY, eX, eY, S2⟩
    refine ⟨fun σ' H' => σ' = [some (.ref a), some (.int l), some (.int s), some (.int n), some (.int p), some (.int b.x), some (.int b.y), some (.int b.s), some (.int (l - s)), some (.int (8 * p)), some (.int (roundOf (l - s) p)), some (.int (n / roundOf (l - s) p)), some (.int (n % roundOf (l - s) p)), some (.int X), some (.int Y), some (.int (nsum (fun i => dx (b.s + i * (l - s)) p) (n % roundOf (l - s) p).toNat)), some (.int (nsum (fun i => dy (b.s + i * (l - s)) p) (n % roundOf (l - s) p).toNat)), none] ∧ Same H H', ?_, ?_⟩
    · refine ⟨_, rfl, _, rfl, _, rfl, _, rfl, b.s, l - s, n % roundOf (l - s) p, p, rfl, p1, by omega, by omega, by omega, fun H3 q3 S3 t3 => ?_⟩
      exact ⟨q3, _, rfl, t3, rfl, _, _, rfl, _, _, rfl, rfl, rfl, S2.trans S3⟩
    rintro σ' H3 ⟨rfl, S3⟩
    refine ⟨fun σ' H' => σ' = [some (.ref a), some (.int l), some (.int s), some (.int n), some (.int p), some (.int b.x), some (.int b.y), some (.int b.s), some (.int (l - s)), some (.int (8 * p)), some (.int (roundOf (l - s) p)), some (.int (n / roundOf (l - s) p)), some (.int (n % roundOf (l - s) p)), some (.int X), some (.int Y), some (.int (nsum (fun i => dx (b.s + i * (l - s)) p) (n % roundOf (l - s) p).toNat)), some (.int (nsum (fun i => dy (b.s + i * (l - s)) p) (n % roundOf (l - s) p).toNat)), some (.int (l + s))] ∧ Same H H', ?_, ?_⟩
    · exact ⟨_, rfl, _, rfl, _, _, rfl, rfl, rfl, S3⟩
    rintro σ' H4 ⟨rfl, S4⟩
    refine ⟨_, rfl, _, rfl, _, rfl, _, rfl, _, _, rfl, rfl, .inr bX, _, rfl, _, _, rfl, rfl, _, _, rfl, rfl, .inl ⟨by omega, by omega⟩, _, _, rfl, rfl, ?_⟩
    refine ⟨_, rfl, _, rfl, _, rfl, _, rfl, _, _, rfl, rfl, .inr bY, _, rfl, _, _, rfl, rfl, _, _, rfl, rfl, .inl ⟨by omega, by omega⟩, _, _, rfl, rfl, ?_⟩
    refine ⟨_, rfl, _, rfl, _, rfl, _, _, rfl, rfl, .inr ⟨by omega, by omega⟩, _, _, rfl, rfl, (by show 3 ≤ sizeLine; decide), fun q hq => ?_⟩
    generalize hX : upd H4 q _ = H5
    obtain ⟨S5, f5⟩ := alloc hq hX
    clear hX
    refine k _ q (S4.trans S5) ?_
    unfold sailed BoatAt
    rw [← sx, ← sy, ← eX, ← eY]
    exact SqT.of f5
/-! ### the pen, boats as data -/
def spPen (K : PySem.W.Frag) : Sp := fun vs H Q _ => ∃ (a : Addr) (ns : List Int), vs = [.ref a] ∧ SqL K H a (ns.map V.int) ∧ ns.length ≤ 63 ∧ ∀ H' p c, Same H H' → PenAt H' p c 0 → Cells K H' p c → Q (.ref p) H'
theorem cut_all (xs : List V) (i : Nat) (h : xs.length ≤ i) : cutV xs none (some (i : Int)) = xs := by
  unfold cutV
  rw [HT.sIx_none, HT.sIx_nat, List.drop_zero, Nat.min_eq_right h, Nat.sub_zero, List.take_length]
theorem ok_pen (T : Txt w K mg) : FnOk P w K mg base CX0 1 T.a_pen T.d_pen ["_law_script"] (spPen K) := by
  refine T.F_pen.ok sc_pen (fun vs H Q E h => ?_) (fun cdv A outer s H vs Q E hr h => ?_)
  · obtain ⟨a, ns, rfl, _⟩ := h
    rfl
  · obtain ⟨a, ns, rfl, hS, hl, k⟩ := h
    refine ⟨_, (pss_one (ps_ret (pe_lst (pa_cons (pe_slice (k_slL K) (pv 0) po_none (po_some pe_int)) (pa_cons pe_int (pa_cons pe_int pa_nil)))))), ?_⟩
    refine ⟨_, rfl, _, rfl, a, _, rfl, hS, fun c hc => ?_⟩
    generalize hX : upd H c _ = H1
    obtain ⟨S1, f1⟩ := alloc hc hX
    clear hX
    refine ⟨(by show 3 ≤ sizeLine; decide), fun p hp => ?_⟩
    generalize hX : upd H1 p _ = H2
    obtain ⟨S2, f2⟩ := alloc hp hX
    clear hX
    rw [show ((63 : Int)) = ((63 : Nat) : Int) from rfl, cut_all _ _ (by rw [List.length_map]; exact hl)] at f1
    exact k _ p c (S1.trans S2) ⟨0, 0, f2, Int.le_refl _, Int.le_refl _, Int.le_refl _⟩ ⟨ne_of_none f1 hp, ns, SqL.of (S2 _ _ f1), hl⟩
def Boat.d (b : Boat) : PyData := .tuple [.int b.x, .int b.y, .int b.s]
theorem BoatAt.dp {K : PySem.W.Frag} {H : Hp} {a : Addr} {b : Boat} (h : BoatAt K H a b) : Dp K H (.ref a) b.d := .tup h (.cons (.int _) (.cons (.int _) (.cons (.int _) .nil)))
theorem Boat.shaped (b : Boat) : SeqAt.shaped b.d = true := rfl
theorem Boat.eqv (b : Boat) : PyData.eqv b.d b.d = true := PySem.SeqAt.eqv_refl _ rfl
def spSame (K : PySem.W.Frag) : Sp := fun vs H Q _ => ∃ (a a' : Addr) (b : Boat), vs = [.ref a, .ref a'] ∧ BoatAt K H a b ∧ BoatAt K H a' b ∧ ∀ H', Same H H' → Q (.bl true) H'
theorem ok_same (T : Txt w K mg) : FnOk P w K mg base CX0 2 T.a_same T.d_same ["_law_found", "_law_due"] (spSame K) := by
  have G_plain := ok_plain (P := P) (base := base) T
  refine T.F_same.ok sc_same (fun vs H Q E h => ?_) (fun cdv A outer s H vs Q E hr h => ?_)
  · obtain ⟨a, a', b, rfl, _⟩ := h
    rfl
  · obtain ⟨a, a', b, rfl, hb, hb', k⟩ := h
    have hr_plain := hr
    refine ⟨_, (pss_one (ps_ret (pe_and (pe_call G_plain hr_plain (by rfl) T.g_plain T.F_plain.kp T.b_plain .nil pass0 (pa_cons (pv 0) pa_nil)) (pe_one (pe_cmpR (k_eqD K hr.units) (pv 0) (pv 1) (nomark _)))))), ?_⟩
    refine ⟨_, rfl, a, b, rfl, hb, fun H1 S1 => ?_⟩
    refine ⟨_, rfl, ?_⟩
    show if true = true then _ else _
    refine ⟨_, rfl, _, rfl, b.d, b.d, (hb.same S1).dp, (hb'.same S1).dp, b.shaped, b.shaped, ?_⟩
    rw [b.eqv]
    exact k _ S1
theorem hdg_eq (s p : Int) (hp : 0 < p) : s % (8 * p) / p = hdg s p := by
  unfold hdg
  have e := Int.emod_add_mul_ediv s (8 * p)
  have r0 := Int.emod_nonneg s (show 8 * p ≠ 0 by omega)
  have r1 := Int.emod_lt_of_pos s (show 0 < 8 * p by omega)
  generalize s % (8 * p) = r at *
  generalize s / (8 * p) = q at *
  have e2 : s = r + p * (8 * q) := by rw [← e, Int.mul_comm 8 p, Int.mul_assoc]
  rw [e2, Int.add_mul_ediv_left _ _ (by omega), Int.add_mul_emod_self_left, Int.emod_eq_of_lt]
  · exact Int.ediv_nonneg r0 (by omega)
  · exact Int.ediv_lt_of_lt_mul hp r1
def spOwnHead (K : PySem.W.Frag) : Sp := fun vs H Q _ => ∃ s p : Int, vs = [.int s, .int p] ∧ 1 ≤ p ∧ p ≤ 1000 ∧ Q (.int (hdg s p)) H
theorem ok_law_heading (T : Txt w K mg) : FnOk P w K mg base CX0 1 T.a_law_heading T.d_law_heading ["_law_lean", "_law_point"] (spOwnHead K) := by
  refine T.F_law_heading.ok sc_law_heading (fun vs H Q E h => ?_) (fun cdv A outer s H vs Q E hr h => ?_)
  · obtain ⟨s, p, rfl, _⟩ := h
    rfl
  · obtain ⟨s, p, rfl, p1, p2, k⟩ := h
    refine ⟨_, (pss_cons (ps_set (i := 2) sc_law_heading.nd rfl (by first | exact Or.inl rfl | exact Or.inr rfl) (pe_op op_mod (pv 0) (pe_op op_mul pe_int (pv 1))))
  (pss_cons (ps_set (i := 3) sc_law_heading.nd rfl (by first | exact Or.inl rfl | exact Or.inr rfl) pe_int)
  (pss_cons (ps_while PassesOwn.never (pt_cmpR op_ge (pv 2) (pv 1) (nomark _)) (pss_cons (ps_set (i := 2) sc_law_heading.nd rfl (by first | exact Or.inl rfl | exact Or.inr rfl) (pe_op op_sub (pv 2) (pv 1)))
  (pss_one (ps_set (i := 3) sc_law_heading.nd rfl (by first | exact Or.inl rfl | exact Or.inr rfl) (pe_op op_add (pv 3) pe_int)))))
  (pss_one (ps_ret (pv 3)))))), ?_⟩
    obtain ⟨h0, h1⟩ := hdg_range s p
    have he := hdg_eq s p (by omega)
    have r0 := Int.emod_nonneg s (show 8 * p ≠ 0 by omega)
    refine ⟨_, rfl, _, rfl, _, _, rfl, rfl, .inl ⟨by decide, by decide⟩, _, _, rfl, rfl, (by omega), ?_⟩
    refine ⟨fun m σ H' => ∃ j : Int, 0 ≤ j ∧ j + m = hdg s p ∧ σ = [some (.int s), some (.int p), some (.int (s % (8 * p) - j * p)), some (.int j)] ∧ H' = H, ⟨(hdg s p).toNat, 0, Int.le_refl _, by omega, by rw [Int.zero_mul, Int.sub_zero]; rfl, rfl⟩, ?_⟩
    rintro m σ H2 ⟨j, j0, jm, rfl, rfl⟩
    have key : p ≤ s % (8 * p) - j * p ↔ 0 < m := by
      rw [show (0 < m) = (j + 1 ≤ s % (8 * p) / p) by rw [he]; exact propext ⟨fun h => by omega, fun h => by omega⟩, Int.le_ediv_iff_mul_le (by omega), Int.add_mul, Int.one_mul]
      omega
    refine ⟨_, rfl, _, rfl, _, _, rfl, rfl, _, rfl, ite2 (fun t => ?_) (fun t => ?_)⟩
    · have t := key.mp (of_decide_eq_true t)
      refine ⟨fun σ' H' => ∃ j' : Int, 0 ≤ j' ∧ j' + ((m - 1 : Nat) : Int) = hdg s p ∧ σ' = [some (.int s), some (.int p), some (.int (s % (8 * p) - j' * p)), some (.int j')] ∧ H' = H2, fun σ' H' ⟨j', q⟩ => ⟨m - 1, by omega, j', q⟩, ?_⟩
      refine ⟨_, rfl, _, rfl, _, _, rfl, rfl, _, rfl, _, _, rfl, rfl, j + 1, by omega, by omega, ?_, rfl⟩
      rw [Int.add_mul, Int.one_mul, ← Int.sub_sub]
      rfl
    · have t : ¬ 0 < m := fun z => t (decide_eq_true (key.mpr z))
      refine ⟨_, rfl, ?_⟩
      have : j = hdg s p := by omega
      rw [this]
      exact k
def spRight (K : PySem.W.Frag) : Sp := fun vs H Q _ => ∃ (a : Addr) (b : Boat) (l s p : Int), vs = [.ref a, .int l, .int s, .int p] ∧ BoatAt K H a b ∧ (-999 ≤ l ∧ l ≤ 999) ∧ (-999 ≤ s ∧ s ≤ 999) ∧ 1 ≤ p ∧ p ≤ 60 ∧ ∀ H', Same H H' → Q (.bl true) H'
theorem ok_right (T : Txt w K mg) : FnOk P w K mg base CX0 4 T.a_right T.d_right ["_law_boat", "_law_larboard", "_law_starboard", "_law_point"] (spRight K) := by
  have G_heading := ok_heading (P := P) (base := base) T
  have G_law_heading := ok_law_heading (P := P) (base := base) T
  have G_same := ok_same (P := P) (base := base) T
  have G_sail := ok_sail (P := P) (base := base) T
  have G_minute_on := ok_minute_on (P := P) (base := base) T
  have G_plain := ok_plain (P := P) (base := base) T
  refine T.F_right.ok sc_right (fun vs H Q E h => ?_) (fun cdv A outer s H vs Q E hr h => ?_)
  · obtain ⟨a, b, l, s, p, rfl, _⟩ := h
    rfl
  · obtain ⟨a, b, l, s, p, rfl, hb, hl, hs, p1, p2, k⟩ := h
    have hr_heading := hr.mono (show 1 ≤ 3 by decide)
    have hr_law_heading := hr_heading
    have hr_same := hr.mono (show 2 ≤ 3 by decide)
    have hr_sail := hr
    have hr_minute_on := hr_heading
    have hr_plain := hr_heading
    refine ⟨_, (pss_cons (ps_for PassesOwn.never rfl (k_piL K (pe_lst (pa_cons (pe_call G_heading hr_heading (by rfl) T.g_heading T.F_heading.kp T.b2_heading T.v2_heading pass0 (pa_cons (pe_ix (kx_tup K) (pv 0) pe_int (fun _ _ => rfl)) (pa_cons (pv 3) pa_nil))) (pa_cons (pe_callK0 G_heading hr_heading (by rfl) T.g_heading T.F_heading.kp T.kb0_heading pass0 (pk_cons (pv 3) (pk_cons (pe_ix (kx_tup K) (pv 0) pe_int (fun _ _ => rfl)) pk_nil))) pa_nil)))) (pg_name (i := 4) sc_right.nd rfl (by first | exact Or.inl rfl | exact Or.inr rfl)) (pss_one (ps_if (PW.pt (pw_or (pt_not (pt_val (pe_callB (k_isi K) (by rfl) T.z_isinstance (by decide +kernel) (pa_cons (pv 4) (pa_cons (pe_bltn (v := .ty "int") (by rfl) T.z_int (by decide +kernel) rfl) pa_nil))))) (pw_or (pt_val (pe_callB (k_isi K) (by rfl) T.z_isinstance (by decide +kernel) (pa_cons (pv 4) (pa_cons (pe_bltn (v := .ty "bool") (by rfl) T.z_bool (by decide +kernel) rfl) pa_nil)))) (pw_or1 (pt_cmpR op_ne (pv 4) (pe_call G_law_heading hr_law_heading (by rfl) T.g_law_heading T.F_law_heading.kp T.b_law_heading .nil pass0 (pa_cons (pe_ix (kx_tup K) (pv 0) pe_int (fun _ _ => rfl)) (pa_cons (pv 3) pa_nil))) (nomark _)))))) (pss_one (ps_ret pe_bl)) pss_nil)))
  (pss_cons (ps_if (pt_cmpR op_ne (pe_call G_heading hr_heading (by rfl) T.g_heading T.F_heading.kp T.b1_heading T.v1_heading pass0 (pa_cons (pe_ix (kx_tup K) (pv 0) pe_int (fun _ _ => rfl)) pa_nil)) (pe_call G_law_heading hr_law_heading (by rfl) T.g_law_heading T.F_law_heading.kp T.b_law_heading .nil pass0 (pa_cons (pe_ix (kx_tup K) (pv 0) pe_int (fun _ _ => rfl)) (pa_cons pe_int pa_nil))) (nomark _)) (pss_one (ps_ret pe_bl)) pss_nil)
  (pss_cons (ps_if (pt_not (pt_val (pe_call G_same hr_same (by rfl) T.g_same T.F_same.kp T.b_same .nil pass0 (pa_cons (pe_call G_sail hr_sail (by rfl) T.g_sail T.F_sail.kp T.b5_sail T.v5_sail pass0 (pa_cons (pv 0) (pa_cons (pv 1) (pa_cons (pv 2) (pa_cons pe_int (pa_cons (pv 3) pa_nil)))))) (pa_cons (pe_call G_minute_on hr_minute_on (by rfl) T.g_minute_on T.F_minute_on.kp T.b_minute_on .nil pass0 (pa_cons (pv 0) (pa_cons (pv 1) (pa_cons (pv 2) (pa_cons (pv 3) pa_nil))))) pa_nil))))) (pss_one (ps_ret pe_bl)) pss_nil)
  (pss_cons (ps_if (pt_not (pt_val (pe_call G_same hr_same (by rfl) T.g_same T.F_same.kp T.b_same .nil pass0 (pa_cons (pe_call G_sail hr_sail (by rfl) T.g_sail T.F_sail.kp T.b4_sail T.v4_sail pass0 (pa_cons (pv 0) (pa_cons (pv 1) (pa_cons (pv 2) (pa_cons pe_int pa_nil))))) (pa_cons (pe_call G_minute_on hr_minute_on (by rfl) T.g_minute_on T.F_minute_on.kp T.b_minute_on .nil pass0 (pa_cons (pv 0) (pa_cons (pv 1) (pa_cons (pv 2) (pa_cons pe_int pa_nil))))) pa_nil))))) (pss_one (ps_ret pe_bl)) pss_nil)
  (pss_cons (ps_if (pt_not (pt_val (pe_call G_same hr_same (by rfl) T.g_same T.F_same.kp T.b_same .nil pass0 (pa_cons (pe_callK0 G_sail hr_sail (by rfl) T.g_sail T.F_sail.kp T.kb1_sail pass0 (pk_cons (pv 3) (pk_cons pe_int (pk_cons (pv 2) (pk_cons (pv 1) (pk_cons (pv 0) pk_nil)))))) (pa_cons (pv 0) pa_nil))))) (pss_one (ps_ret pe_bl)) pss_nil)
  (pss_cons (ps_set (i := 5) sc_right.nd rfl (by first | exact Or.inl rfl | exact Or.inr rfl) (pe_callK G_sail hr_sail (by rfl) T.g_sail T.F_sail.kp T.kb0_sail pass0 (pa_cons (pv 0) (pa_cons (pv 1) (pa_cons (pv 2) pa_nil))) (pk_cons (pe_un un_neg pe_int) (pk_cons (pv 3) pk_nil))))
  (pss_one (ps_ret (pe_and (pe_call G_plain hr_plain (by rfl) T.g_plain T.F_plain.kp T.b_plain .nil pass0 (pa_cons (pv 5) pa_nil)) (pe_one (pe_cmpR (k_eqD K hr.units) (pe_call G_minute_on hr_minute_on (by rfl) T.g_minute_on T.F_minute_on.kp T.b_minute_on .nil pass0 (pa_cons (pv 5) (pa_cons (pv 1) (pa_cons (pv 2) (pa_cons (pv 3) pa_nil))))) (pv 0) (nomark _)))))))))))), ?_⟩
    refine ⟨_, rfl, a, _, _, _, rfl, rfl, hb, rfl, _, rfl, _, _, rfl, p1, by omega, ?_⟩
    refine ⟨_, rfl, _, rfl, a, _, _, _, rfl, rfl, hb, rfl, _, _, rfl, p1, by omega, ?_⟩
    refine ⟨(by show 2 ≤ sizeLine; decide), fun l0 hl0 => ?_⟩
    generalize hX : upd H l0 _ = H1
    obtain ⟨S1, f1⟩ := alloc hl0 hX
    clear hX
    have hb1 := hb.same S1
    refine ⟨l0, rfl, ⟨_, SqL.of f1⟩, ?_⟩
    refine for_it (walk_list (xs := [V.int (hdg b.s p), V.int (hdg b.s p)])) (fun i σ H' => ∃ x4 : Option V, σ = [some (.ref a), some (.int l), some (.int s), some (.int p), x4, none] ∧ H' = H1) ⟨none, rfl, rfl⟩ (fun i σ H' _ ⟨_, _, q⟩ => q ▸ SqL.of f1) ?_ ?_
    · rintro i x σ _ H2 hi ⟨x4, rfl, rfl⟩ ⟨rfl, hx⟩
      obtain rfl : x = V.int (hdg b.s p) := by simpa using List.mem_of_getElem? hx
      refine ⟨_, rfl, _, _, _, _, true, rfl, ClsV.ty "int", TyX.base (TyOf.int _), kit_ty (by decide +kernel), _, rfl, ?_⟩
      show if false = true then _ else _
      refine ⟨_, rfl, _, _, _, _, false, rfl, ClsV.ty "bool", TyX.base (TyOf.int _), kit_ty (by decide +kernel), _, rfl, ?_⟩
      show if false = true then _ else _
      refine ⟨_, rfl, _, rfl, a, _, _, _, rfl, rfl, hb1, rfl, _, rfl, _, _, rfl, p1, by omega, rfl, _, rfl, ?_⟩
      rw [decide_eq_true rfl]
      show if false = true then _ else _
      exact ⟨_, rfl, rfl⟩
    · rintro σ H2 ⟨x4, rfl, rfl⟩
      refine ⟨_, rfl, a, _, _, _, rfl, rfl, hb1, rfl, _, _, rfl, by decide, by decide, _, rfl, a, _, _, _, rfl, rfl, hb1, rfl, _, _, rfl, by decide, by decide, rfl, _, rfl, ?_⟩
      rw [decide_eq_true rfl]
      show if false = true then _ else _
      -- one minute
      refine ⟨_, rfl, _, rfl, _, rfl, _, rfl, a, b, l, s, 1, p, rfl, hb1, hl.1, hl.2, hs.1, hs.2, p1, p2, fun H3 q3 S3 t3 => ?_⟩
      refine ⟨_, rfl, _, rfl, _, rfl, _, rfl, a, b, l, s, p, rfl, hb1.same S3, p1, p2, fun H4 q4 S4 t4 => ?_⟩
      refine ⟨q3, q4, _, rfl, t3.same S4, t4, fun H5 S5 => ?_⟩
      refine ⟨_, rfl, ?_⟩
      show if false = true then _ else _
      have hb5 := hb1.same (S3.trans (S4.trans S5))
      refine ⟨_, rfl, _, rfl, _, rfl, a, b, l, s, 1, 45, rfl, hb5, hl.1, hl.2, hs.1, hs.2, by decide, by decide, fun H6 q6 S6 t6 => ?_⟩
      refine ⟨_, rfl, _, rfl, _, rfl, a, b, l, s, 45, rfl, hb5.same S6, by decide, by decide, fun H7 q7 S7 t7 => ?_⟩
      refine ⟨q6, q7, _, rfl, t6.same S7, t7, fun H8 S8 => ?_⟩
      refine ⟨_, rfl, ?_⟩
      show if false = true then _ else _
      have hb8 := hb5.same (S6.trans (S7.trans S8))
      -- none
      refine ⟨_, rfl, _, rfl, _, rfl, _, rfl, a, b, l, s, 0, p, rfl, hb8, hl.1, hl.2, hs.1, hs.2, p1, p2, fun H9 q9 S9 t9 => ?_⟩
      rw [sailed_0] at t9
      refine ⟨_, rfl, q9, a, b, rfl, t9, hb8.same S9, fun H10 S10 => ?_⟩
      refine ⟨_, rfl, ?_⟩
      show if false = true then _ else _
      have hb10 := hb8.same (S9.trans S10)
      -- back
      refine ⟨_, rfl, _, rfl, _, rfl, 1, rfl, _, rfl, a, b, l, s, -1, p, rfl, hb10, hl.1, hl.2, hs.1, hs.2, p1, p2, fun H11 q11 S11 t11 => ?_⟩
      refine ⟨_, rfl, q11, _, rfl, t11, fun H12 S12 => ?_⟩
      refine ⟨_, rfl, ?_⟩
      show if true = true then _ else _
      refine ⟨_, rfl, _, rfl, _, rfl, _, rfl, q11, _, l, s, p, rfl, t11.same S12, p1, p2, fun H13 q13 S13 t13 => ?_⟩
      rw [sailed_add, show (-1 : Int) + 1 = 0 from rfl, sailed_0] at t13
      refine ⟨_, rfl, b.d, b.d, t13.dp, (hb10.same (S11.trans (S12.trans S13))).dp, b.shaped, b.shaped, ?_⟩
      rw [b.eqv]
      exact k _ (S1.trans ((S3.trans (S4.trans S5)).trans ((S6.trans (S7.trans S8)).trans ((S9.trans S10).trans (S11.trans (S12.trans S13))))))

/-- what is asked: rows (ship, port, star, step) -/
def AskAt (K : PySem.W.Frag) (H : Hp) (v : V) : Prop := ∃ (t a : Addr) (b : Boat) (l s p : Int), v = .ref t ∧ SqT K H t [.ref a, .int l, .int s, .int p] ∧ BoatAt K H a b ∧ (-999 ≤ l ∧ l ≤ 999) ∧ (-999 ≤ s ∧ s ≤ 999) ∧ 1 ≤ p ∧ p ≤ 60
theorem AskAt.lst {K : PySem.W.Frag} {H H1 : Hp} {v : V} {q : Addr} {ys : List V} (h : AskAt K H v) (hp : H q = some (.lst ys)) (b : But q H H1) : AskAt K H1 v := by
  obtain ⟨t, a, bo, l, s, p, e, h1, h2, r⟩ := h
  exact ⟨t, a, bo, l, s, p, e, seqT_lst h1 hp b, seqT_lst h2 hp b, r⟩
theorem AskAt.same {K : PySem.W.Frag} {H H1 : Hp} {v : V} (h : AskAt K H v) (S : Same H H1) : AskAt K H1 v := by
  obtain ⟨t, a, bo, l, s, p, e, h1, h2, r⟩ := h
  exact ⟨t, a, bo, l, s, p, e, same_seqT S h1, same_seqT S h2, r⟩
def spLaw (K : PySem.W.Frag) : Sp := fun vs H Q _ => ∃ (a : Addr) (ns : List Int), vs = [.ref a] ∧ SqL K H a (ns.map V.int) ∧ ns.length ≤ 63 ∧ ∀ H', Q (.bl true) H'
theorem law_in (K : PySem.W.Frag) (H : Hp) (a : Addr) (ns : List Int) (h1 : ns.length ≤ 63) (_ : ∀ k ∈ ns, Builtin.Int.intBits k ≤ 1048576) (_ : Only H) (h2 : SqL K H a (ns.map V.int)) : spLaw K [.ref a] H (fun v _ => v = .bl true) fun _ _ _ => False :=
  ⟨a, ns, rfl, h2, h1, fun _ => rfl⟩
theorem ok_law (T : Txt w K mg) : GOk P w K mg base CX0 6 T.a_law T.d_law ["_law_script"] (spLaw K) := by
  have G_pen := ok_pen (P := P) (base := base) T
  have G_step := ok_step (P := P) (base := base) T
  have G_turn := ok_turn (P := P) (base := base) T
  have G_ship := ok_ship (P := P) (base := base) T
  have G_take := ok_take (P := P) (base := base) T
  have G_right := ok_right (P := P) (base := base) T
  refine GOk.body T.F_law sc_law (fun vs H Q E h => ?_) (fun cdv A outer s H vs Q E hr hG h => ?_)
  · obtain ⟨a, ns, rfl, _⟩ := h
    rfl
  · obtain ⟨a, ns, rfl, hS, hl, k⟩ := h
    have hr_pen := hr.mono (show 1 ≤ 5 by decide)
    have hr_step := hr.mono (show 2 ≤ 5 by decide)
    have hr_turn := hr_step
    have hr_ship := hr.mono (show 3 ≤ 5 by decide)
    have hr_take := hr_pen
    have hr_right := hr.mono (show 4 ≤ 5 by decide)
    refine ⟨_, (pss_cons (ps_set (i := 1) sc_law.nd rfl (by first | exact Or.inl rfl | exact Or.inr rfl) (pe_call G_pen hr_pen (by rfl) T.g_pen T.F_pen.kp T.b_pen .nil pass0 (pa_cons (pv 0) pa_nil)))
  (pss_cons (ps_set (i := 2) sc_law.nd rfl (by first | exact Or.inl rfl | exact Or.inr rfl) (pe_lst pa_nil))
  (pss_cons (ps_for PassesOwn.never rfl (pi_range1 (by rfl) T.z_range (pa_cons pe_int pa_nil)) (pg_name (i := 3) sc_law.nd rfl (by first | exact Or.inl rfl | exact Or.inr rfl)) (pss_cons (ps_set (i := 4) sc_law.nd rfl (by first | exact Or.inl rfl | exact Or.inr rfl) (pe_call G_step hr_step (by rfl) T.g_step T.F_step.kp T.b_step .nil pass0 (pa_cons (pv 1) pa_nil)))
  (pss_cons (ps_set (i := 5) sc_law.nd rfl (by first | exact Or.inl rfl | exact Or.inr rfl) (pe_call G_turn hr_turn (by rfl) T.g_turn T.F_turn.kp T.b_turn .nil pass0 (pa_cons (pv 1) pa_nil)))
  (pss_one (ps_expr (pe_bm PySem.F.plainAttrs_list PySem.F.slot_list_append PySem.F.type_list_append mt_append (pv 2) (pa_cons (pe_tup (pa_cons (pe_call G_ship hr_ship (by rfl) T.g_ship T.F_ship.kp T.b_ship .nil pass0 (pa_cons (pv 1) (pa_cons (pv 4) pa_nil))) (pa_cons (pv 5) (pa_cons (pe_ix (kx_list K) (pe_lst (pa_cons (pv 5) (pa_cons (pe_call G_turn hr_turn (by rfl) T.g_turn T.F_turn.kp T.b_turn .nil pass0 (pa_cons (pv 1) pa_nil)) pa_nil))) (pe_call G_take hr_take (by rfl) T.g_take T.F_take.kp T.b_take .nil pass0 (pa_cons (pv 1) (pa_cons pe_int pa_nil))) (fun _ _ => rfl)) (pa_cons (pv 4) pa_nil))))) pa_nil)))))))
  (pss_cons (ps_for PassesOwn.never rfl (k_piL K (pe_op op_cat (pv 2) (pe_revL (pv 2)))) (k_pgT (n := 4) K rfl (pgs_cons (pg_name (i := 6) sc_law.nd rfl (by first | exact Or.inl rfl | exact Or.inr rfl)) (pgs_cons (pg_name (i := 5) sc_law.nd rfl (by first | exact Or.inl rfl | exact Or.inr rfl)) (pgs_cons (pg_name (i := 7) sc_law.nd rfl (by first | exact Or.inl rfl | exact Or.inr rfl)) (pgs_cons (pg_name (i := 4) sc_law.nd rfl (by first | exact Or.inl rfl | exact Or.inr rfl)) pgs_nil))))) (pss_one (ps_if (pt_not (pt_val (pe_call G_right hr_right (by rfl) T.g_right T.F_right.kp T.b_right .nil pass0 (pa_cons (pv 6) (pa_cons (pv 5) (pa_cons (pv 7) (pa_cons (pv 4) pa_nil))))))) (pss_one (ps_ret pe_bl)) pss_nil)))
  (pss_one (ps_ret pe_bl)))))), ?_⟩
    refine ⟨_, rfl, a, ns, rfl, hS, hl, fun H1 p c S1 hp hc => ?_⟩
    refine ⟨(by show 0 ≤ sizeLine; decide), fun L hL => ?_⟩
    generalize hX : upd H1 L _ = H2
    obtain ⟨S2, f2⟩ := alloc hL hX
    clear hX
    have g0 := (Go.refl hp hc).same S2
    have nL : L ≠ p := Ne.symm ((Go.refl hp hc).ne_new hL)
    refine ⟨9, rfl, by decide, by decide, ?_⟩
    refine for_it walk_range (fun i σ H' => ∃ (ts : List V) (x3 x4 x5 : Option V), σ = [some (.ref a), some (.ref p), some (.ref L), x3, x4, x5, none, none] ∧ Go K p c H1 (100 * i) H' ∧ H' L = some (.lst ts) ∧ ts.length = i ∧ ∀ v ∈ ts, AskAt K H' v)
      ⟨[], none, none, none, rfl, g0, f2, rfl, fun v hv => by cases hv⟩ (fun _ _ _ _ _ => trivial) ?_ ?_
    · rintro i x σ _ H3 hi ⟨ts, x3, x4, x5, rfl, g3, fL, lt, asks⟩ ⟨rfl, rfl⟩
      have hi9 : i < 9 := hi
      refine ⟨_, rfl, p, c, _, rfl, g3.pen, g3.cel, by omega, fun H4 st g4 st1 st2 => ?_⟩
      refine ⟨_, rfl, p, c, _, rfl, g4.pen, g4.cel, by omega, fun H5 lb g5 lb1 lb2 => ?_⟩
      have fL5 := g5.but _ _ nL (g4.but _ _ nL fL)
      refine ⟨_, rfl, .inl ⟨rfl, _, SqL.of fL5⟩, _, rfl, _, rfl, p, c, _, st, rfl, g5.pen, g5.cel, by omega, st1, st2, fun H6 ba b g6 hba hb => ?_⟩
      refine ⟨_, rfl, _, rfl, _, rfl, p, c, _, rfl, g6.pen, g6.cel, by omega, fun H7 sb g7 sb1 sb2 => ?_⟩
      refine ⟨(by show 2 ≤ sizeLine; decide), fun l0 hl0 => ?_⟩
      generalize hX : upd H7 l0 _ = H8
      obtain ⟨S8, f8⟩ := alloc hl0 hX
      clear hX
      have g8 := (g4.trans (g5.trans (g6.trans g7))).same S8
      have nl : l0 ≠ p := Ne.symm ((g4.trans (g5.trans (g6.trans g7))).ne_new hl0)
      refine ⟨_, rfl, p, c, _, _, rfl, g8.pen, g8.cel, by omega, by decide, by decide, fun H9 d g9 d1 d2 => ?_⟩
      obtain ⟨v, hv, ev⟩ := atI_lt (xs := [V.int lb, V.int sb]) d1 d2
      obtain ⟨sx, rfl, sx1, sx2⟩ : ∃ z : Int, v = V.int z ∧ -999 ≤ z ∧ z ≤ 999 := by
        have z : v = V.int lb ∨ v = V.int sb := by simpa using hv
        rcases z with z | z <;> exact ⟨_, z, by omega, by omega⟩
      refine ⟨l0, _, _, _, rfl, rfl, g9.but.seqL nl (SqL.of f8), ev, ?_⟩
      refine ⟨_, rfl, (by show 4 ≤ sizeLine; decide), fun t ht => ?_⟩
      generalize hX : upd H9 t _ = H10
      obtain ⟨S10, f10⟩ := alloc ht hX
      clear hX
      have gA := (g8.trans g9).same S10
      have fL10 := S10 _ _ (g9.but _ _ nL (S8 _ _ ((g4.trans (g5.trans (g6.trans g7))).but _ _ nL fL)))
      refine ⟨L, _, _, rfl, rfl, fL10, small1000 (by omega), ?_⟩
      have keep : But p H3 H10 := (g4.trans (g5.trans (g6.trans g7))).but.trans ((But.of_same S8).trans (g9.but.trans (But.of_same S10)))
      obtain ⟨pi, pj, ep, _⟩ := id g3.pen
      have tb : BoatAt K H10 ba b := (seqT_go (same_seqT S8 (seqT_go hb (g4.trans (g5.trans g6)).pen g7.but)) g8.pen g9.but |> same_seqT S10)
      refine ⟨ts ++ [V.ref t], _, _, _, rfl, ?_, upd_same, by rw [List.length_append, lt]; rfl, fun v hv => ?_⟩
      · have gB := g3.trans gA
        exact (gB.own hL nL hc).mono (by omega)
      · rcases List.mem_append.mp hv with z | z
        · obtain ⟨t', a', b', l', s', p', e', h1, h2, r⟩ := asks v z
          exact AskAt.lst (q := L) ⟨t', a', b', l', s', p', e', seqT_lst h1 ep keep, seqT_lst h2 ep keep, r⟩ fL10 But.put
        · obtain rfl : v = V.ref t := by simpa using z
          exact AskAt.lst (q := L) ⟨t, ba, b, lb, sx, st, rfl, SqT.of f10, tb, ⟨lb1, lb2⟩, ⟨sx1, sx2⟩, st1, st2⟩ fL10 But.put
    · rintro σ H3 ⟨ts, x3, x4, x5, rfl, g3, fL, lt, asks⟩
      refine ⟨_, rfl, _, rfl, L, _, rfl, SqL.of fL, fun L2 hL2 => ?_⟩
      generalize hX : upd H3 L2 _ = H4
      obtain ⟨S4, f4⟩ := alloc hL2 hX
      clear hX
      refine ⟨L, L2, _, _, rfl, rfl, S4 _ _ fL, f4, by rw [List.length_reverse]; exact Nat.le_trans (show _ ≤ 18 by omega) (by decide), fun L3 hL3 => ?_⟩
      generalize hX : upd H4 L3 _ = H5
      obtain ⟨S5, f5⟩ := alloc hL3 hX
      clear hX
      refine ⟨L3, rfl, ⟨_, SqL.of f5⟩, ?_⟩
      have asks5 : ∀ v ∈ ts ++ ts.reverse, AskAt K H5 v := fun v hv => by
        have hv : v ∈ ts := by
          rcases List.mem_append.mp hv with z | z
          · exact z
          · exact List.mem_reverse.mp z
        exact (asks v hv).same (S4.trans S5)
      refine for_it (walk_list (xs := ts ++ ts.reverse)) (fun i σ H' => ∃ (x4 x5 x6 x7 : Option V), σ = [some (.ref a), some (.ref p), some (.ref L), x3, x4, x5, x6, x7] ∧ Same H5 H') ⟨_, _, _, _, rfl, Same.refl _⟩ (fun i σ H' _ ⟨_, _, _, _, _, q⟩ => SqL.of (q _ _ f5)) ?_ ?_
      · rintro i x σ _ H6 hi ⟨x4, x5, x6, x7, rfl, S6⟩ ⟨rfl, hx⟩
        obtain ⟨t, ba, b, l, s, p', rfl, h1, h2, hl, hs, p1, p2⟩ := (asks5 x (List.mem_of_getElem? hx)).same S6
        refine ⟨t, _, rfl, h1, rfl, _, _, rfl, _, _, rfl, _, _, rfl, _, _, rfl, rfl, ?_⟩
        refine ⟨_, rfl, _, rfl, _, rfl, _, rfl, ba, b, l, s, p', rfl, h2, hl, hs, p1, p2, fun H7 S7 => ?_⟩
        refine ⟨_, rfl, ?_⟩
        show if false = true then _ else _
        exact ⟨_, _, _, _, rfl, S6.trans S7⟩
      · rintro σ H6 ⟨x4, x5, x6, x7, rfl, S6⟩
        exact k _
end
theorem all_mk {l : PySem.W.OpenLaw} {w : World} {K : PySem.W.Frag} {h : Heap} {mg : Str → Option Value} {fa : Addr} (X : K.In h) (G : h.Ns mainGlobals mg) (hfa : mg "law" = some (.ref fa))
    {f0 T0 : Addr} {tc0 : Value} {td0 : Option Addr} {its0 : Array Value} {tn0 : Nat} {tsl0 : Array (Option Value)} {od0 an0 : Option Addr} {sl0 : Array (Option Value)} {oc0 kV0 dc0 pm0 cd0 ct0 : Value} (a0 : PySem.W.nsIn K mainGlobals "heading" = some (some (.ref f0))) (l0 : K.lookup f0 = some ⟨oc0, od0, .func (PySem.W.fnOf "heading" "heading" (defArgs s_heading) (defBody s_heading) (defScope s_heading) (.ref T0) kV0 dc0 pm0 an0 cd0 ct0), sl0⟩) (c0 : PySem.W.codeIn K cd0 "heading" = true) (k0 : PySem.W.keepIn K (.ref f0) = true) (lt0 : K.lookup T0 = some ⟨tc0, td0, .seq its0 tn0, tsl0⟩) (vt0 : Vals [V.int (45)] its0.toList)
    {f1 T1 : Addr} {tc1 : Value} {td1 : Option Addr} {its1 : Array Value} {tn1 : Nat} {tsl1 : Array (Option Value)} {od1 an1 : Option Addr} {sl1 : Array (Option Value)} {oc1 kV1 dc1 pm1 cd1 ct1 : Value} (a1 : PySem.W.nsIn K mainGlobals "sail" = some (some (.ref f1))) (l1 : K.lookup f1 = some ⟨oc1, od1, .func (PySem.W.fnOf "sail" "sail" (defArgs s_sail) (defBody s_sail) (defScope s_sail) (.ref T1) kV1 dc1 pm1 an1 cd1 ct1), sl1⟩) (c1 : PySem.W.codeIn K cd1 "sail" = true) (k1 : PySem.W.keepIn K (.ref f1) = true) (lt1 : K.lookup T1 = some ⟨tc1, td1, .seq its1 tn1, tsl1⟩) (vt1 : Vals [V.int (45)] its1.toList)
    {f2 : Addr} {od2 an2 : Option Addr} {sl2 : Array (Option Value)} {oc2 kV2 dc2 pm2 cd2 ct2 : Value} (a2 : PySem.W.nsIn K mainGlobals "way" = some (some (.ref f2))) (l2 : K.lookup f2 = some ⟨oc2, od2, .func (PySem.W.fnOf "way" "way" (defArgs s_way) (defBody s_way) (defScope s_way) .none kV2 dc2 pm2 an2 cd2 ct2), sl2⟩) (c2 : PySem.W.codeIn K cd2 "way" = true) (k2 : PySem.W.keepIn K (.ref f2) = true)
    {f3 : Addr} {od3 an3 : Option Addr} {sl3 : Array (Option Value)} {oc3 kV3 dc3 pm3 cd3 ct3 : Value} (a3 : PySem.W.nsIn K mainGlobals "_law_pen" = some (some (.ref f3))) (l3 : K.lookup f3 = some ⟨oc3, od3, .func (PySem.W.fnOf "_law_pen" "_law_pen" (defArgs s_pen) (defBody s_pen) (defScope s_pen) .none kV3 dc3 pm3 an3 cd3 ct3), sl3⟩) (c3 : PySem.W.codeIn K cd3 "_law_pen" = true) (k3 : PySem.W.keepIn K (.ref f3) = true)
    {f4 : Addr} {od4 an4 : Option Addr} {sl4 : Array (Option Value)} {oc4 kV4 dc4 pm4 cd4 ct4 : Value} (a4 : PySem.W.nsIn K mainGlobals "_law_take" = some (some (.ref f4))) (l4 : K.lookup f4 = some ⟨oc4, od4, .func (PySem.W.fnOf "_law_take" "_law_take" (defArgs s_take) (defBody s_take) (defScope s_take) .none kV4 dc4 pm4 an4 cd4 ct4), sl4⟩) (c4 : PySem.W.codeIn K cd4 "_law_take" = true) (k4 : PySem.W.keepIn K (.ref f4) = true)
    {f5 : Addr} {od5 an5 : Option Addr} {sl5 : Array (Option Value)} {oc5 kV5 dc5 pm5 cd5 ct5 : Value} (a5 : PySem.W.nsIn K mainGlobals "_law_far" = some (some (.ref f5))) (l5 : K.lookup f5 = some ⟨oc5, od5, .func (PySem.W.fnOf "_law_far" "_law_far" (defArgs s_far) (defBody s_far) (defScope s_far) .none kV5 dc5 pm5 an5 cd5 ct5), sl5⟩) (c5 : PySem.W.codeIn K cd5 "_law_far" = true) (k5 : PySem.W.keepIn K (.ref f5) = true)
    {f6 : Addr} {od6 an6 : Option Addr} {sl6 : Array (Option Value)} {oc6 kV6 dc6 pm6 cd6 ct6 : Value} (a6 : PySem.W.nsIn K mainGlobals "_law_step" = some (some (.ref f6))) (l6 : K.lookup f6 = some ⟨oc6, od6, .func (PySem.W.fnOf "_law_step" "_law_step" (defArgs s_step) (defBody s_step) (defScope s_step) .none kV6 dc6 pm6 an6 cd6 ct6), sl6⟩) (c6 : PySem.W.codeIn K cd6 "_law_step" = true) (k6 : PySem.W.keepIn K (.ref f6) = true)
    {f7 : Addr} {od7 an7 : Option Addr} {sl7 : Array (Option Value)} {oc7 kV7 dc7 pm7 cd7 ct7 : Value} (a7 : PySem.W.nsIn K mainGlobals "_law_ship" = some (some (.ref f7))) (l7 : K.lookup f7 = some ⟨oc7, od7, .func (PySem.W.fnOf "_law_ship" "_law_ship" (defArgs s_ship) (defBody s_ship) (defScope s_ship) .none kV7 dc7 pm7 an7 cd7 ct7), sl7⟩) (c7 : PySem.W.codeIn K cd7 "_law_ship" = true) (k7 : PySem.W.keepIn K (.ref f7) = true)
    {f8 : Addr} {od8 an8 : Option Addr} {sl8 : Array (Option Value)} {oc8 kV8 dc8 pm8 cd8 ct8 : Value} (a8 : PySem.W.nsIn K mainGlobals "_law_turn" = some (some (.ref f8))) (l8 : K.lookup f8 = some ⟨oc8, od8, .func (PySem.W.fnOf "_law_turn" "_law_turn" (defArgs s_turn) (defBody s_turn) (defScope s_turn) .none kV8 dc8 pm8 an8 cd8 ct8), sl8⟩) (c8 : PySem.W.codeIn K cd8 "_law_turn" = true) (k8 : PySem.W.keepIn K (.ref f8) = true)
    {f9 : Addr} {od9 an9 : Option Addr} {sl9 : Array (Option Value)} {oc9 kV9 dc9 pm9 cd9 ct9 : Value} (a9 : PySem.W.nsIn K mainGlobals "_law_minute_on" = some (some (.ref f9))) (l9 : K.lookup f9 = some ⟨oc9, od9, .func (PySem.W.fnOf "_law_minute_on" "_law_minute_on" (defArgs s_minute_on) (defBody s_minute_on) (defScope s_minute_on) .none kV9 dc9 pm9 an9 cd9 ct9), sl9⟩) (c9 : PySem.W.codeIn K cd9 "_law_minute_on" = true) (k9 : PySem.W.keepIn K (.ref f9) = true)
    {f10 : Addr} {od10 an10 : Option Addr} {sl10 : Array (Option Value)} {oc10 kV10 dc10 pm10 cd10 ct10 : Value} (a10 : PySem.W.nsIn K mainGlobals "_law_plain" = some (some (.ref f10))) (l10 : K.lookup f10 = some ⟨oc10, od10, .func (PySem.W.fnOf "_law_plain" "_law_plain" (defArgs s_plain) (defBody s_plain) (defScope s_plain) .none kV10 dc10 pm10 an10 cd10 ct10), sl10⟩) (c10 : PySem.W.codeIn K cd10 "_law_plain" = true) (k10 : PySem.W.keepIn K (.ref f10) = true)
    {f11 : Addr} {od11 an11 : Option Addr} {sl11 : Array (Option Value)} {oc11 kV11 dc11 pm11 cd11 ct11 : Value} (a11 : PySem.W.nsIn K mainGlobals "_law_same" = some (some (.ref f11))) (l11 : K.lookup f11 = some ⟨oc11, od11, .func (PySem.W.fnOf "_law_same" "_law_same" (defArgs s_same) (defBody s_same) (defScope s_same) .none kV11 dc11 pm11 an11 cd11 ct11), sl11⟩) (c11 : PySem.W.codeIn K cd11 "_law_same" = true) (k11 : PySem.W.keepIn K (.ref f11) = true)
    {f12 : Addr} {od12 an12 : Option Addr} {sl12 : Array (Option Value)} {oc12 kV12 dc12 pm12 cd12 ct12 : Value} (a12 : PySem.W.nsIn K mainGlobals "_law_heading" = some (some (.ref f12))) (l12 : K.lookup f12 = some ⟨oc12, od12, .func (PySem.W.fnOf "_law_heading" "_law_heading" (defArgs s_law_heading) (defBody s_law_heading) (defScope s_law_heading) .none kV12 dc12 pm12 an12 cd12 ct12), sl12⟩) (c12 : PySem.W.codeIn K cd12 "_law_heading" = true) (k12 : PySem.W.keepIn K (.ref f12) = true)
    {f13 : Addr} {od13 an13 : Option Addr} {sl13 : Array (Option Value)} {oc13 kV13 dc13 pm13 cd13 ct13 : Value} (a13 : PySem.W.nsIn K mainGlobals "_law_right" = some (some (.ref f13))) (l13 : K.lookup f13 = some ⟨oc13, od13, .func (PySem.W.fnOf "_law_right" "_law_right" (defArgs s_right) (defBody s_right) (defScope s_right) .none kV13 dc13 pm13 an13 cd13 ct13), sl13⟩) (c13 : PySem.W.codeIn K cd13 "_law_right" = true) (k13 : PySem.W.keepIn K (.ref f13) = true)
    {f14 : Addr} {od14 an14 : Option Addr} {sl14 : Array (Option Value)} {oc14 kV14 dc14 pm14 cd14 ct14 : Value} (a14 : PySem.W.nsIn K mainGlobals "law" = some (some (.ref f14))) (l14 : K.lookup f14 = some ⟨oc14, od14, .func (PySem.W.fnOf "law" "law" (defArgs s_law) (defBody s_law) (defScope s_law) .none kV14 dc14 pm14 an14 cd14 ct14), sl14⟩) (c14 : PySem.W.codeIn K cd14 "law" = true) (k14 : PySem.W.keepIn K (.ref f14) = true)
    (z_abs : PySem.W.nsIn K mainGlobals "abs" = some none)
    (z_bool : PySem.W.nsIn K mainGlobals "bool" = some none)
    (z_divmod : PySem.W.nsIn K mainGlobals "divmod" = some none)
    (z_int : PySem.W.nsIn K mainGlobals "int" = some none)
    (z_isinstance : PySem.W.nsIn K mainGlobals "isinstance" = some none)
    (z_len : PySem.W.nsIn K mainGlobals "len" = some none)
    (z_range : PySem.W.nsIn K mainGlobals "range" = some none)
    (z_tuple : PySem.W.nsIn K mainGlobals "tuple" = some none)
    (i_gcd : PySem.W.nsIn K mainGlobals "gcd" = some (some (.builtin "math.gcd")))
    {D_HEADINGS : Addr} {td_HEADINGS : Option Addr} {its_HEADINGS : Array Value} {tn_HEADINGS : Nat} {tsl_HEADINGS : Array (Option Value)} {D_0_HEADINGS : Addr} {td_0_HEADINGS : Option Addr} {its_0_HEADINGS : Array Value} {tn_0_HEADINGS : Nat} {tsl_0_HEADINGS : Array (Option Value)} {D_1_HEADINGS : Addr} {td_1_HEADINGS : Option Addr} {its_1_HEADINGS : Array Value} {tn_1_HEADINGS : Nat} {tsl_1_HEADINGS : Array (Option Value)} {D_2_HEADINGS : Addr} {td_2_HEADINGS : Option Addr} {its_2_HEADINGS : Array Value} {tn_2_HEADINGS : Nat} {tsl_2_HEADINGS : Array (Option Value)} {D_3_HEADINGS : Addr} {td_3_HEADINGS : Option Addr} {its_3_HEADINGS : Array Value} {tn_3_HEADINGS : Nat} {tsl_3_HEADINGS : Array (Option Value)} {D_4_HEADINGS : Addr} {td_4_HEADINGS : Option Addr} {its_4_HEADINGS : Array Value} {tn_4_HEADINGS : Nat} {tsl_4_HEADINGS : Array (Option Value)} {D_5_HEADINGS : Addr} {td_5_HEADINGS : Option Addr} {its_5_HEADINGS : Array Value} {tn_5_HEADINGS : Nat} {tsl_5_HEADINGS : Array (Option Value)} {D_6_HEADINGS : Addr} {td_6_HEADINGS : Option Addr} {its_6_HEADINGS : Array Value} {tn_6_HEADINGS : Nat} {tsl_6_HEADINGS : Array (Option Value)} {D_7_HEADINGS : Addr} {td_7_HEADINGS : Option Addr} {its_7_HEADINGS : Array Value} {tn_7_HEADINGS : Nat} {tsl_7_HEADINGS : Array (Option Value)} (m_HEADINGS : PySem.W.nsIn K mainGlobals "HEADINGS" = some (some (.ref D_HEADINGS))) (lt_HEADINGS : K.lookup D_HEADINGS = some ⟨.type "tuple", td_HEADINGS, .seq its_HEADINGS tn_HEADINGS, tsl_HEADINGS⟩) (vv_HEADINGS : Vals [V.ref D_0_HEADINGS, V.ref D_1_HEADINGS, V.ref D_2_HEADINGS, V.ref D_3_HEADINGS, V.ref D_4_HEADINGS, V.ref D_5_HEADINGS, V.ref D_6_HEADINGS, V.ref D_7_HEADINGS] its_HEADINGS.toList) (lt_0_HEADINGS : K.lookup D_0_HEADINGS = some ⟨.type "tuple", td_0_HEADINGS, .seq its_0_HEADINGS tn_0_HEADINGS, tsl_0_HEADINGS⟩) (vv_0_HEADINGS : Vals [V.int (0), V.int (1)] its_0_HEADINGS.toList) (lt_1_HEADINGS : K.lookup D_1_HEADINGS = some ⟨.type "tuple", td_1_HEADINGS, .seq its_1_HEADINGS tn_1_HEADINGS, tsl_1_HEADINGS⟩) (vv_1_HEADINGS : Vals [V.int (1), V.int (1)] its_1_HEADINGS.toList) (lt_2_HEADINGS : K.lookup D_2_HEADINGS = some ⟨.type "tuple", td_2_HEADINGS, .seq its_2_HEADINGS tn_2_HEADINGS, tsl_2_HEADINGS⟩) (vv_2_HEADINGS : Vals [V.int (1), V.int (0)] its_2_HEADINGS.toList) (lt_3_HEADINGS : K.lookup D_3_HEADINGS = some ⟨.type "tuple", td_3_HEADINGS, .seq its_3_HEADINGS tn_3_HEADINGS, tsl_3_HEADINGS⟩) (vv_3_HEADINGS : Vals [V.int (1), V.int (-1)] its_3_HEADINGS.toList) (lt_4_HEADINGS : K.lookup D_4_HEADINGS = some ⟨.type "tuple", td_4_HEADINGS, .seq its_4_HEADINGS tn_4_HEADINGS, tsl_4_HEADINGS⟩) (vv_4_HEADINGS : Vals [V.int (0), V.int (-1)] its_4_HEADINGS.toList) (lt_5_HEADINGS : K.lookup D_5_HEADINGS = some ⟨.type "tuple", td_5_HEADINGS, .seq its_5_HEADINGS tn_5_HEADINGS, tsl_5_HEADINGS⟩) (vv_5_HEADINGS : Vals [V.int (-1), V.int (-1)] its_5_HEADINGS.toList) (lt_6_HEADINGS : K.lookup D_6_HEADINGS = some ⟨.type "tuple", td_6_HEADINGS, .seq its_6_HEADINGS tn_6_HEADINGS, tsl_6_HEADINGS⟩) (vv_6_HEADINGS : Vals [V.int (-1), V.int (0)] its_6_HEADINGS.toList) (lt_7_HEADINGS : K.lookup D_7_HEADINGS = some ⟨.type "tuple", td_7_HEADINGS, .seq its_7_HEADINGS tn_7_HEADINGS, tsl_7_HEADINGS⟩) (vv_7_HEADINGS : Vals [V.int (-1), V.int (1)] its_7_HEADINGS.toList)  :
    ∃ fd : FuncData, (∀ (s : Shared) (v : Value), BindsTo s fd ⟨[v], []⟩ [("_law_script", v)]) ∧ ∀ base : Heap, K.In base → base.Ns mainGlobals mg → GOk l.prog w K mg base CX0 6 fa fd ["_law_script"] (spLaw K) := by
  have e := hfa.symm.trans (PySem.W.mg_of X G a14)
  cases e
  have F0 := FunD_mk (x := "heading") (params := defArgs s_heading) (body := defBody s_heading) (scope := defScope s_heading) (dvs := [V.int (45)]) l0 c0 k0 lt0 vt0 (by simp)
  obtain ⟨ds2_0, v2_0, b2_0⟩ := F0.binds1 (ps := ["swing", "step"]) 2 1 (by simp) (by simp) (fun T kV doc pm an cdv ct us its hu hi => match us, hu, its, hi with | [_, _], _, [_], _ => ⟨_, rfl, rfl⟩)
  obtain ⟨ds1_0, v1_0, b1_0⟩ := F0.binds1 (ps := ["swing", "step"]) 1 0 (by simp) (by simp) (fun T kV doc pm an cdv ct us its hu hi => match us, hu, its, hi with | [_], _, [_], _ => ⟨_, rfl, rfl⟩)
  have F1 := FunD_mk (x := "sail") (params := defArgs s_sail) (body := defBody s_sail) (scope := defScope s_sail) (dvs := [V.int (45)]) l1 c1 k1 lt1 vt1 (by simp)
  obtain ⟨ds4_1, v4_1, b4_1⟩ := F1.binds1 (ps := ["ship", "port", "star", "minutes", "step"]) 4 0 (by simp) (by simp) (fun T kV doc pm an cdv ct us its hu hi => match us, hu, its, hi with | [_, _, _, _], _, [_], _ => ⟨_, rfl, rfl⟩)
  obtain ⟨ds5_1, v5_1, b5_1⟩ := F1.binds1 (ps := ["ship", "port", "star", "minutes", "step"]) 5 1 (by simp) (by simp) (fun T kV doc pm an cdv ct us its hu hi => match us, hu, its, hi with | [_, _, _, _, _], _, [_], _ => ⟨_, rfl, rfl⟩)
  have F2 := fun_mk (st := s_way) l2 c2 k2
  have F3 := fun_mk (st := s_pen) l3 c3 k3
  have F4 := fun_mk (st := s_take) l4 c4 k4
  have F5 := fun_mk (st := s_far) l5 c5 k5
  have F6 := fun_mk (st := s_step) l6 c6 k6
  have F7 := fun_mk (st := s_ship) l7 c7 k7
  have F8 := fun_mk (st := s_turn) l8 c8 k8
  have F9 := fun_mk (st := s_minute_on) l9 c9 k9
  have F10 := fun_mk (st := s_plain) l10 c10 k10
  have F11 := fun_mk (st := s_same) l11 c11 k11
  have F12 := fun_mk (st := s_law_heading) l12 c12 k12
  have F13 := fun_mk (st := s_right) l13 c13 k13
  have F14 := fun_mk (st := s_law) l14 c14 k14
  obtain ⟨it0_1, kb0_1⟩ := FunD_kb F1 (ps := ["ship", "port", "star", "minutes", "step"]) (by simp) ["minutes", "step"] (fun us its ws => match us, its, ws with | [p0, p1, p2], [_], [x0, x1] => [p0, p1, p2, x0, x1] | _, _, _ => []) (fun us its ws => match us, its, ws with | [p0, p1, p2], [_], [x0, x1] => [p0, p1, p2, x0, x1] | _, _, _ => [])
    (fun r1 r2 r3 => by (cases r1 with | nil => exact .nil | cons a0 r1 => (cases r1 with | nil => exact .nil | cons a1 r1 => (cases r1 with | nil => exact .nil | cons a2 r1 => (cases r1 with | nil => (cases r2 with | nil => exact .nil | cons e0 r2 => (cases r2 with | nil => (cases r3 with | nil => exact .nil | cons q0 r3 => (cases r3 with | nil => exact .nil | cons q1 r3 => (cases r3 with | nil => exact .cons a0 (.cons a1 (.cons a2 (.cons q0 (.cons q1 (.nil))))) | cons _ _ => exact .nil))) | cons _ _ => exact .nil)) | cons _ _ => exact .nil))))) (fun T kV doc pm an cdv ct us its ws hi hl => match us, its, ws, hl with | [_, _, _], [_], [_, _], _ => ⟨_, rfl, rfl⟩)
  obtain ⟨it1_1, kb1_1⟩ := FunD_kb F1 (ps := ["ship", "port", "star", "minutes", "step"]) (by simp) ["step", "minutes", "star", "port", "ship"] (fun us its ws => match us, its, ws with | [], [_], [x0, x1, x2, x3, x4] => [x4, x3, x2, x1, x0] | _, _, _ => []) (fun us its ws => match us, its, ws with | [], [_], [x0, x1, x2, x3, x4] => [x4, x3, x2, x1, x0] | _, _, _ => [])
    (fun r1 r2 r3 => by (cases r1 with | nil => (cases r2 with | nil => exact .nil | cons e0 r2 => (cases r2 with | nil => (cases r3 with | nil => exact .nil | cons q0 r3 => (cases r3 with | nil => exact .nil | cons q1 r3 => (cases r3 with | nil => exact .nil | cons q2 r3 => (cases r3 with | nil => exact .nil | cons q3 r3 => (cases r3 with | nil => exact .nil | cons q4 r3 => (cases r3 with | nil => exact .cons q4 (.cons q3 (.cons q2 (.cons q1 (.cons q0 (.nil))))) | cons _ _ => exact .nil)))))) | cons _ _ => exact .nil)) | cons _ _ => exact .nil)) (fun T kV doc pm an cdv ct us its ws hi hl => match us, its, ws, hl with | [], [_], [_, _, _, _, _], _ => ⟨_, rfl, rfl⟩)
  obtain ⟨it0_0, kb0_0⟩ := FunD_kb F0 (ps := ["swing", "step"]) (by simp) ["step", "swing"] (fun us its ws => match us, its, ws with | [], [_], [x0, x1] => [x1, x0] | _, _, _ => []) (fun us its ws => match us, its, ws with | [], [_], [x0, x1] => [x1, x0] | _, _, _ => [])
    (fun r1 r2 r3 => by (cases r1 with | nil => (cases r2 with | nil => exact .nil | cons e0 r2 => (cases r2 with | nil => (cases r3 with | nil => exact .nil | cons q0 r3 => (cases r3 with | nil => exact .nil | cons q1 r3 => (cases r3 with | nil => exact .cons q1 (.cons q0 (.nil)) | cons _ _ => exact .nil))) | cons _ _ => exact .nil)) | cons _ _ => exact .nil)) (fun T kV doc pm an cdv ct us its ws hi hl => match us, its, ws, hl with | [], [_], [_, _], _ => ⟨_, rfl, rfl⟩)
  let T : Txt w K mg := {
    a_heading := f0, d_heading := _, F_heading := F0, ds2_heading := ds2_0, v2_heading := v2_0, b2_heading := b2_0, ds1_heading := ds1_0, v1_heading := v1_0, b1_heading := b1_0, g_heading := PySem.W.mg_of X G a0,
    a_sail := f1, d_sail := _, F_sail := F1, ds4_sail := ds4_1, v4_sail := v4_1, b4_sail := b4_1, ds5_sail := ds5_1, v5_sail := v5_1, b5_sail := b5_1, g_sail := PySem.W.mg_of X G a1,
    a_way := f2, d_way := _, F_way := F2, b_way := F2.binds (ps := ["swing", "veer", "minutes", "step"]) (fun _ _ _ _ _ _ us hl => match us, hl with | [_, _, _, _], _ => rfl), g_way := PySem.W.mg_of X G a2,
    a_pen := f3, d_pen := _, F_pen := F3, b_pen := F3.binds (ps := ["_law_script"]) (fun _ _ _ _ _ _ us hl => match us, hl with | [_], _ => rfl), g_pen := PySem.W.mg_of X G a3,
    a_take := f4, d_take := _, F_take := F4, b_take := F4.binds (ps := ["_law_pen_here", "_law_many"]) (fun _ _ _ _ _ _ us hl => match us, hl with | [_, _], _ => rfl), g_take := PySem.W.mg_of X G a4,
    a_far := f5, d_far := _, F_far := F5, b_far := F5.binds (ps := ["_law_pen_here"]) (fun _ _ _ _ _ _ us hl => match us, hl with | [_], _ => rfl), g_far := PySem.W.mg_of X G a5,
    a_step := f6, d_step := _, F_step := F6, b_step := F6.binds (ps := ["_law_pen_here"]) (fun _ _ _ _ _ _ us hl => match us, hl with | [_], _ => rfl), g_step := PySem.W.mg_of X G a6,
    a_ship := f7, d_ship := _, F_ship := F7, b_ship := F7.binds (ps := ["_law_pen_here", "_law_point"]) (fun _ _ _ _ _ _ us hl => match us, hl with | [_, _], _ => rfl), g_ship := PySem.W.mg_of X G a7,
    a_turn := f8, d_turn := _, F_turn := F8, b_turn := F8.binds (ps := ["_law_pen_here"]) (fun _ _ _ _ _ _ us hl => match us, hl with | [_], _ => rfl), g_turn := PySem.W.mg_of X G a8,
    a_minute_on := f9, d_minute_on := _, F_minute_on := F9, b_minute_on := F9.binds (ps := ["_law_boat", "_law_larboard", "_law_starboard", "_law_point"]) (fun _ _ _ _ _ _ us hl => match us, hl with | [_, _, _, _], _ => rfl), g_minute_on := PySem.W.mg_of X G a9,
    a_plain := f10, d_plain := _, F_plain := F10, b_plain := F10.binds (ps := ["_law_found"]) (fun _ _ _ _ _ _ us hl => match us, hl with | [_], _ => rfl), g_plain := PySem.W.mg_of X G a10,
    a_same := f11, d_same := _, F_same := F11, b_same := F11.binds (ps := ["_law_found", "_law_due"]) (fun _ _ _ _ _ _ us hl => match us, hl with | [_, _], _ => rfl), g_same := PySem.W.mg_of X G a11,
    a_law_heading := f12, d_law_heading := _, F_law_heading := F12, b_law_heading := F12.binds (ps := ["_law_lean", "_law_point"]) (fun _ _ _ _ _ _ us hl => match us, hl with | [_, _], _ => rfl), g_law_heading := PySem.W.mg_of X G a12,
    a_right := f13, d_right := _, F_right := F13, b_right := F13.binds (ps := ["_law_boat", "_law_larboard", "_law_starboard", "_law_point"]) (fun _ _ _ _ _ _ us hl => match us, hl with | [_, _, _, _], _ => rfl), g_right := PySem.W.mg_of X G a13,
    a_law := fa, d_law := _, F_law := F14, b_law := F14.binds (ps := ["_law_script"]) (fun _ _ _ _ _ _ us hl => match us, hl with | [_], _ => rfl), g_law := PySem.W.mg_of X G a14,
    it0_sail := it0_1, kb0_sail := kb0_1,
    it1_sail := it1_1, kb1_sail := kb1_1,
    it0_heading := it0_0, kb0_heading := kb0_0,
    z_abs := PySem.W.mg_none_of X G z_abs,
    z_bool := PySem.W.mg_none_of X G z_bool,
    z_divmod := PySem.W.mg_none_of X G z_divmod,
    z_int := PySem.W.mg_none_of X G z_int,
    z_isinstance := PySem.W.mg_none_of X G z_isinstance,
    z_len := PySem.W.mg_none_of X G z_len,
    z_range := PySem.W.mg_none_of X G z_range,
    z_tuple := PySem.W.mg_none_of X G z_tuple,
    i_gcd := PySem.W.mg_of X G i_gcd,
    D_HEADINGS := D_HEADINGS, c_HEADINGS := PySem.W.mg_of X G m_HEADINGS, D0_HEADINGS := D_0_HEADINGS, D1_HEADINGS := D_1_HEADINGS, D2_HEADINGS := D_2_HEADINGS, D3_HEADINGS := D_3_HEADINGS, D4_HEADINGS := D_4_HEADINGS, D5_HEADINGS := D_5_HEADINGS, D6_HEADINGS := D_6_HEADINGS, D7_HEADINGS := D_7_HEADINGS, kt_HEADINGS := fun H => .inr ⟨_, its_HEADINGS, tn_HEADINGS, lt_HEADINGS, rfl, rfl, (Nat.le_trans (Nat.le_of_eq (show its_HEADINGS.size = 8 by simpa using vv_HEADINGS.length.symm)) (by decide)), vv_HEADINGS⟩, kt0_HEADINGS := fun H => .inr ⟨_, its_0_HEADINGS, tn_0_HEADINGS, lt_0_HEADINGS, rfl, rfl, (Nat.le_trans (Nat.le_of_eq (show its_0_HEADINGS.size = 2 by simpa using vv_0_HEADINGS.length.symm)) (by decide)), vv_0_HEADINGS⟩, kt1_HEADINGS := fun H => .inr ⟨_, its_1_HEADINGS, tn_1_HEADINGS, lt_1_HEADINGS, rfl, rfl, (Nat.le_trans (Nat.le_of_eq (show its_1_HEADINGS.size = 2 by simpa using vv_1_HEADINGS.length.symm)) (by decide)), vv_1_HEADINGS⟩, kt2_HEADINGS := fun H => .inr ⟨_, its_2_HEADINGS, tn_2_HEADINGS, lt_2_HEADINGS, rfl, rfl, (Nat.le_trans (Nat.le_of_eq (show its_2_HEADINGS.size = 2 by simpa using vv_2_HEADINGS.length.symm)) (by decide)), vv_2_HEADINGS⟩, kt3_HEADINGS := fun H => .inr ⟨_, its_3_HEADINGS, tn_3_HEADINGS, lt_3_HEADINGS, rfl, rfl, (Nat.le_trans (Nat.le_of_eq (show its_3_HEADINGS.size = 2 by simpa using vv_3_HEADINGS.length.symm)) (by decide)), vv_3_HEADINGS⟩, kt4_HEADINGS := fun H => .inr ⟨_, its_4_HEADINGS, tn_4_HEADINGS, lt_4_HEADINGS, rfl, rfl, (Nat.le_trans (Nat.le_of_eq (show its_4_HEADINGS.size = 2 by simpa using vv_4_HEADINGS.length.symm)) (by decide)), vv_4_HEADINGS⟩, kt5_HEADINGS := fun H => .inr ⟨_, its_5_HEADINGS, tn_5_HEADINGS, lt_5_HEADINGS, rfl, rfl, (Nat.le_trans (Nat.le_of_eq (show its_5_HEADINGS.size = 2 by simpa using vv_5_HEADINGS.length.symm)) (by decide)), vv_5_HEADINGS⟩, kt6_HEADINGS := fun H => .inr ⟨_, its_6_HEADINGS, tn_6_HEADINGS, lt_6_HEADINGS, rfl, rfl, (Nat.le_trans (Nat.le_of_eq (show its_6_HEADINGS.size = 2 by simpa using vv_6_HEADINGS.length.symm)) (by decide)), vv_6_HEADINGS⟩, kt7_HEADINGS := fun H => .inr ⟨_, its_7_HEADINGS, tn_7_HEADINGS, lt_7_HEADINGS, rfl, rfl, (Nat.le_trans (Nat.le_of_eq (show its_7_HEADINGS.size = 2 by simpa using vv_7_HEADINGS.length.symm)) (by decide)), vv_7_HEADINGS⟩ }
  exact ⟨PySem.W.fnOf "law" "law" (defArgs s_law) (defBody s_law) (defScope s_law) .none kV14 dc14 pm14 an14 cd14 ct14, fun s v => .of_eq rfl, fun base _ _ => ok_law T⟩
end RO
open PySem PySem.W PyProof.Rows in
set_option maxRecDepth 100000 in
set_option maxHeartbeats 0 in
theorem PySem.Challenge.cw_ringorders_k53_headings_and_a_minute_holds : PySem.Challenge.rw_ringorders_k53_headings_and_a_minute.Holds := by
  w_on; o_law; k_head; (case hw => w_witness2)
  k_fill
  refine RO.walk_G (l := PySem.Challenge.rw_ringorders_k53_headings_and_a_minute) (n := 63) (k := 6) (x := "_law_script") (sp := RO.spLaw) rfl (by decide) rfl ⟨rfl, by decide, by decide⟩ (fun w h Y => PySem.W.kIn_of Y) ?F RO.law_in
  case F =>
    intro w mg fa h KX G hmg
    refine' RO.all_mk KX G hmg ?a0 ?l0 ?c0 ?k0 ?lt0 ?vt0 ?a1 ?l1 ?c1 ?k1 ?lt1 ?vt1 ?a2 ?l2 ?c2 ?k2 ?a3 ?l3 ?c3 ?k3 ?a4 ?l4 ?c4 ?k4 ?a5 ?l5 ?c5 ?k5 ?a6 ?l6 ?c6 ?k6 ?a7 ?l7 ?c7 ?k7 ?a8 ?l8 ?c8 ?k8 ?a9 ?l9 ?c9 ?k9 ?a10 ?l10 ?c10 ?k10 ?a11 ?l11 ?c11 ?k11 ?a12 ?l12 ?c12 ?k12 ?a13 ?l13 ?c13 ?k13 ?a14 ?l14 ?c14 ?k14 ?z_abs ?z_bool ?z_divmod ?z_int ?z_isinstance ?z_len ?z_range ?z_tuple ?i_gcd ?m_HEADINGS ?lt_HEADINGS ?vv_HEADINGS ?lt_0_HEADINGS ?vv_0_HEADINGS ?lt_1_HEADINGS ?vv_1_HEADINGS ?lt_2_HEADINGS ?vv_2_HEADINGS ?lt_3_HEADINGS ?vv_3_HEADINGS ?lt_4_HEADINGS ?vv_4_HEADINGS ?lt_5_HEADINGS ?vv_5_HEADINGS ?lt_6_HEADINGS ?vv_6_HEADINGS ?lt_7_HEADINGS ?vv_7_HEADINGS
    (case a0 => k_is)
    (case l0 => k_is)
    (case c0 => k_is)
    (case k0 => k_is)
    (case lt0 => k_is)
    (case vt0 => exact .cons ⟨_, rfl⟩ (.nil))
    (case a1 => k_is)
    (case l1 => k_is)
    (case c1 => k_is)
    (case k1 => k_is)
    (case lt1 => k_is)
    (case vt1 => exact .cons ⟨_, rfl⟩ (.nil))
    (case a2 => k_is)
    (case l2 => k_is)
    (case c2 => k_is)
    (case k2 => k_is)
    (case a3 => k_is)
    (case l3 => k_is)
    (case c3 => k_is)
    (case k3 => k_is)
    (case a4 => k_is)
    (case l4 => k_is)
    (case c4 => k_is)
    (case k4 => k_is)
    (case a5 => k_is)
    (case l5 => k_is)
    (case c5 => k_is)
    (case k5 => k_is)
    (case a6 => k_is)
    (case l6 => k_is)
    (case c6 => k_is)
    (case k6 => k_is)
    (case a7 => k_is)
    (case l7 => k_is)
    (case c7 => k_is)
    (case k7 => k_is)
    (case a8 => k_is)
    (case l8 => k_is)
    (case c8 => k_is)
    (case k8 => k_is)
    (case a9 => k_is)
    (case l9 => k_is)
    (case c9 => k_is)
    (case k9 => k_is)
    (case a10 => k_is)
    (case l10 => k_is)
    (case c10 => k_is)
    (case k10 => k_is)
    (case a11 => k_is)
    (case l11 => k_is)
    (case c11 => k_is)
    (case k11 => k_is)
    (case a12 => k_is)
    (case l12 => k_is)
    (case c12 => k_is)
    (case k12 => k_is)
    (case a13 => k_is)
    (case l13 => k_is)
    (case c13 => k_is)
    (case k13 => k_is)
    (case a14 => k_is)
    (case l14 => k_is)
    (case c14 => k_is)
    (case k14 => k_is)
    (case z_abs => k_is)
    (case z_bool => k_is)
    (case z_divmod => k_is)
    (case z_int => k_is)
    (case z_isinstance => k_is)
    (case z_len => k_is)
    (case z_range => k_is)
    (case z_tuple => k_is)
    (case i_gcd => k_is)
    (case m_HEADINGS => k_is)
    (case lt_HEADINGS => k_is)
    (case vv_HEADINGS => exact .cons rfl (.cons rfl (.cons rfl (.cons rfl (.cons rfl (.cons rfl (.cons rfl (.cons rfl (.nil)))))))))
    (case lt_0_HEADINGS => k_is)
    (case vv_0_HEADINGS => exact .cons ⟨_, rfl⟩ (.cons ⟨_, rfl⟩ (.nil)))
    (case lt_1_HEADINGS => k_is)
    (case vv_1_HEADINGS => exact .cons ⟨_, rfl⟩ (.cons ⟨_, rfl⟩ (.nil)))
    (case lt_2_HEADINGS => k_is)
    (case vv_2_HEADINGS => exact .cons ⟨_, rfl⟩ (.cons ⟨_, rfl⟩ (.nil)))
    (case lt_3_HEADINGS => k_is)
    (case vv_3_HEADINGS => exact .cons ⟨_, rfl⟩ (.cons ⟨_, rfl⟩ (.nil)))
    (case lt_4_HEADINGS => k_is)
    (case vv_4_HEADINGS => exact .cons ⟨_, rfl⟩ (.cons ⟨_, rfl⟩ (.nil)))
    (case lt_5_HEADINGS => k_is)
    (case vv_5_HEADINGS => exact .cons ⟨_, rfl⟩ (.cons ⟨_, rfl⟩ (.nil)))
    (case lt_6_HEADINGS => k_is)
    (case vv_6_HEADINGS => exact .cons ⟨_, rfl⟩ (.cons ⟨_, rfl⟩ (.nil)))
    (case lt_7_HEADINGS => k_is)
    (case vv_7_HEADINGS => exact .cons ⟨_, rfl⟩ (.cons ⟨_, rfl⟩ (.nil)))
