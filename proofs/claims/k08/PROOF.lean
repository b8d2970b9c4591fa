import PyProof.Rows.All
import Wide.All
import OpenK.AllK
import Wide.FinOn
import HandS.ForMost
import HandS.IsInst
import HandS.Rev
import PyProof.ReprRoads
import PyProof.CallFns
import HandS.EndBits
import HandS.Zip0
import HandS.Walk
import PyProof.Draws
import HandS.More
import HandS.WrittenGet
import HandS.Defaults
import HandS.Wide
import HandS.Conv
import HandS.TupAny
import HandS.Codes
import PyProof.ReprBulk
import HandS.Style
import HandS.NoneIn
import HandS.SortInts
import PySem.Challenge.RW_ringorders_k08_what_stands
set_option Elab.async false
set_option linter.all false
set_option maxRecDepth 100000
set_option maxHeartbeats 4000000
/-! Ringorders, the ground: promises of defs around which no repr runs, calls by keywords alone, repr of data. -/
namespace RO
open PySem PySem.Spec PyProof.Rows L2

/-- what a def keeps where nothing guards a repr around it -/
structure GOk (P : Program) (w : World) (K : PySem.W.Frag) (mg : Str → Option Value) (base : Heap) (CX : CXT) (k : Nat) (f : Addr) (fd : FuncData) (ps : List Str) (sp : Sp) : Prop where
  many : ∀ vs H Q E, sp vs H Q E → vs.length = ps.length
  runs : ∀ (A : Around) (out : List Env) (s : Shared) (H : Hp) (as : Args) (us : List Value) (vs : List V) (Q : VK) (E : XK),
    Room k A → A.guards = some [] → Env0 P w K mg base A out s H → BindsTo s fd as (ps.zip us) → Vals vs us → sp vs H Q E →
      codeAny (model P w) A (.call (.ref f) as) (CR CX out P w H s Q E) s

section
variable {P : Program} {w : World} {K : PySem.W.Frag} {mg : Str → Option Value} {base : Heap}

theorem GOk.of {CX : CXT} {k : Nat} {f : Addr} {fd : FuncData} {ps : List Str} {sp : Sp} (F : FnOk P w K mg base CX k f fd ps sp) : GOk P w K mg base CX k f fd ps sp :=
  { many := F.len
    runs := fun A out s H as us vs Q E hr _ => F.run A out s H as us vs Q E hr }
theorem GOk.up {CX : CXT} {j k : Nat} {f : Addr} {fd : FuncData} {ps : List Str} {sp : Sp} (F : GOk P w K mg base CX j f fd ps sp) (h : j ≤ k) : GOk P w K mg base CX k f fd ps sp :=
  { many := F.many
    runs := fun A out s H as us vs Q E hr => F.runs A out s H as us vs Q E (Room.mono hr h) }

/-- a def by its body, nothing guarding a repr -/
theorem GOk.body {x qual : Str} {st : Stmt} {f : Addr} {fd : FuncData} {N ps : List Str} {k : Nat} {sp : Sp} (F : Fun K x qual st f fd) (S : FnScope N ps (defScope st))
    (many : ∀ vs H Q E, sp vs H Q E → vs.length = ps.length)
    (hb : ∀ (cdv : Value) (A : Around) (out : List Env) (s : Shared) (H : Hp) (vs : List V) (Q : VK) (E : XK),
      Room k (A.deeper (envOfC qual (defScope st) s.heap.objs.size f cdv)) → A.guards = some [] → sp vs H Q E →
        ∃ t, PSs (cxOf CX0 P w K mg base N qual (defScope st) f cdv A out s H E).nox (defBody st) t ∧ t { nx := fun _ H' => Q .non H', rt := Q } (start N vs) H) :
    GOk P w K mg base CX0 (k + 1) f fd ps sp := by
  obtain ⟨oc, od, kV, doc, pm, an, cdv, ct, osl, e, lk, hcd⟩ := F.ex
  subst e
  constructor
  · exact many
  · intro A out s H as us vs Q E hr hG e0 hbd r hsp
    have h0 := many _ _ _ _ hsp
    have old : ∀ b o, base.get? b = some o → s.heap.get? b = some o := fun b o z => (e0.bs b o z).1
    have hK : K.In s.heap := e0.mod.kin.keeps old
    have hL : s.heap.NoLimit := e0.mod.nolimit.keeps old
    have kinds : ∀ y ∈ ps.zip us, (defScope st).names.lookup y.1 = some .local ∨
        ((defScope st).names.lookup y.1 = some .cell ∧ ((cellsFrom (s.heap.objs.size + 1) (defScope st).names []).lookup y.1).isSome = true) := by
      intro y hy
      cases S.par y.1 (List.of_mem_zip (show (y.1, y.2) ∈ ps.zip us from hy)).1 with
      | inl z => exact Or.inl z
      | inr z => exact Or.inr ⟨z, PySem.W.cellsFrom_some _ _ _ (Or.inl z)⟩
    apply codeAny_call_function hr.depth (hK _ _ lk) rfl S.co S.gen rfl (PySem.W.codeRec_of hK hcd)
    apply hbd
    apply wpAny_newFunctionEnv_cells S.kind kinds
    intro env he s1 x
    subst he
    refine ⟨hL.keeps x.toInCall.keep, codeAny_func ?_⟩
    obtain ⟨t, ht, hq⟩ := hb cdv A out s H vs Q E (hr.deeper _) hG hsp
    have J0 := inv_start (E := E) S hr.hd e0 h0 r x (CX := CX0)
    have done : ∀ {σ' : L2.St} {H' : Hp} {v : V} {u : Value} {s' : Shared}, Inv (cxOf CX0 P w K mg base N qual (defScope st) f cdv A out s H E) [] σ' H' s' → RelV v u → Q v H' → CE out P w H s Q u s' :=
      fun {σ' H' v u s'} J rv q => ⟨v, H', J.os, J.bare, J.base, J.hok, rv, q⟩
    apply wpAny_mono (ht.nox.run [] s1 (start N vs) H _ J0 hq)
    · intro fl s' hs
      match fl, hs with
      | .ret u, ⟨v, σ', H', J, rv, q⟩ => exact done J rv q
      | .next, ⟨σ', H', J, q⟩ => exact done (v := V.non) (u := Value.none) J rfl q
      | .brk, ⟨_, _, _, q⟩ => exact q.elim
      | .cont, ⟨_, _, _, q⟩ => exact q.elim
    · exact fun _ _ hs => hs
end

section
variable {X : Cx} {CX : CXT} {k : Nat} {f C : Addr} {fd : FuncData} {ps ks : List Str} {sp : Sp} {dvs : List V} {ds : List Value} {E : XK} {x m : Str} {p pos : Pos} {e o : Expr} {es : List Expr} {kws : List Keyword} {te ta : TE} {t tk : TA}

theorem GOk.goes {pins : List (Addr × Obj)} {σ : L2.St} {H : Hp} {s : Shared} {Q : VK} {as : Args} {us : List Value} {vs : List V} (F : GOk X.prog X.w X.K X.mg X.base CX k f fd ps sp) (hr : Room k X.A) (hG : X.A.guards = some []) (hx : Passes CX X E)
    (hb : BindsTo s fd as (ps.zip us)) (I : Inv X pins σ H s) (r : Vals vs us) (h : sp vs H Q E) : codeAny (model X.prog X.w) X.A (.call (.ref f) as) (fun r s' => match r with | .ok (.ret u) => EP X pins σ Q u s' | .ok _ => False | .error e => X.xe e s') s := by
  apply codeAny_mono (F.runs X.A X.stack s H as us vs Q E hr hG I.env0 hb r h)
  intro r s' hq
  match r, hq with
  | .error e, hq => exact hx pins σ H s e s' I hq
  | .ok (.ret u), hq => exact I.after hq
  | .ok .next, hq => exact hq.elim
  | .ok .brk, hq => exact hq.elim
  | .ok .cont, hq => exact hq.elim

/-- f(e, ..) where f keeps its promise if no repr is guarded -/
theorem pe_callG (F : GOk X.prog X.w X.K X.mg X.base CX k f fd ps sp) (hr : Room k X.A) (hG : X.A.guards = some []) (hg : Gl X x) (hm : X.mg x = some (.ref f)) (hk : PySem.W.keepIn X.K (.ref f) = true) (hb : Binds X.K fd ps ds) (hd : Vals dvs ds) (hx : Passes CX X E)
    (ha : PA X (e :: es) t) (hdb : (x == ("__debug__" : Str)) = false := by decide) (he : starEach (e :: es) X.env = (false, eval e X.env) :: starEach es X.env := by rfl)
    (hpl : (backTo pos (starEach es X.env)).any (·.1) = false := by rfl) : PE X (.Call (.Name x p) (e :: es) [] pos) (tCall sp dvs E t) := by
  constructor
  intro pins s σ H Q I h
  apply wpAny_Call_Name_kw
  apply ld_glob I hg hm _ hdb
  apply PySem.W.callWith_K (h₀ := X.base) I.ok.mod.kin hk _ he hpl
  apply thn (ha.run pos pins s σ H _ I h)
  rintro us s1 ⟨vs, H1, I1, r, q⟩
  refine ⟨I1.kIn, ?_⟩
  have r2 : Vals (vs ++ dvs) (us ++ ds) := r.append hd
  have hl : (us ++ ds).length = ps.length := r2.length.symm.trans (F.many _ _ _ _ q)
  show wpAny _ _ (call (.ref f) us) _ _ s1
  exact wpAny_call (codeAny_mono (F.goes hr hG hx (hb s1 us I1.kIn hl) I1 r2 q) fun r s' hq => by
    match r, hq with
    | .error e, hq => exact hq
    | .ok (.ret u), hq => exact hq)

/-- f(k = v, ..), nothing by place -/
theorem pe_callK0 {g : List Value → List Value → List Value} {gV : List V → List V → List V} (F : FnOk X.prog X.w X.K X.mg X.base CX k f fd ps sp) (hr : Room k X.A) (hg : Gl X x) (hm : X.mg x = some (.ref f)) (hk : PySem.W.keepIn X.K (.ref f) = true)
    (hb : KBinds X.K fd ps ks g gV) (hx : Passes CX X E) (hkw : PK X kws tk) (hall : (backToKw pos (keywordEach kws X.env)).all (·.1.isSome) = true := by rfl) (hks : (backToKw pos (keywordEach kws X.env)).filterMap (·.1) = ks := by rfl)
    (hdb : (x == ("__debug__" : Str)) = false := by decide)
    (hpl : ((backTo pos (starEach [] X.env)).any (·.1) || (backToKw pos (keywordEach kws X.env)).any (·.1.isNone)) = false := by rfl) :
    PE X (.Call (.Name x p) [] kws pos) (tCallK sp gV E tNil tk) := by
  constructor
  intro pins s σ H Q I h
  apply wpAny_Call_Name_kw
  apply ld_glob I hg hm _ hdb
  apply PySem.W.callWith_KW0 (h₀ := X.base) I.ok.mod.kin hk hall _ hpl
  apply thn (hkw.run pos pins s σ H _ I h)
  rintro ws s1 ⟨zs, H1, I1, rz, q⟩
  refine ⟨I1.kIn, ?_⟩
  rw [hks]
  exact run_fnk (us := []) F hr hb hx I1 .nil rz q

/-! ### repr -/
/-- repr of data -/
def rRepr (K : PySem.W.Frag) : List V → Hp → VK → Prop := fun xs H Q => ∃ v d, xs = [v] ∧ Dp K H v d ∧ PyData.showable d = true ∧ d.hasDict = false ∧ d.depth ≤ 40 ∧ d.shown.length ≤ sizeLine ∧ Q (.str d.shown) H
theorem call_repr (hG : X.A.guards = some []) (hu : X.A.units + 64 < cLine) : CallR X (.builtin "repr") (rRepr X.K) := by
  intro pins s σ H xs us Q I r h
  obtain ⟨v, d, rfl, hd, hs, hn, h40, hz, q⟩ := h
  obtain ⟨u, rfl, ru⟩ := vals1 r
  have fin : ∀ (h' : Heap) (tk : Nat) (u : Tok), (∀ b o, s.heap.get? b = some o → h'.get? b = some o) → EP X pins σ Q (.str d.shown u) { s with heap := h', toks := tk } :=
    fun h' tk u hk => ⟨.str d.shown, H, I.un (Un.kept hk) (I.hok.kept hk), ⟨u, rfl⟩, q⟩
  obtain ⟨as, rd⟩ := Dp.reads I d v u hd ru
  cases hd with
  | non =>
    cases ru
    exact P.repr_of_none (fin s.heap _ _ fun _ _ z => z)
  | bl b =>
    cases ru
    refine P.repr_of_bool ?_
    have z := fin s.heap (s.toks + 1) s.toks fun _ _ z => z
    cases b <;> exact z
  | int i =>
    obtain ⟨t, rfl⟩ := ru
    refine P.repr_of_int ?_ ?_
    · simpa [PyData.showable] using hs
    · have z := fin s.heap (s.toks + 1) s.toks fun _ _ z => z
      simpa [PyData.shown] using z
  | str x =>
    obtain ⟨t, rfl⟩ := ru
    have z := fin s.heap (s.toks + 1) s.toks fun _ _ z => z
    simp only [PyData.shown_str] at z hz
    exact P.repr_of_str z hz
  | lst h1 h2 =>
    cases ru
    exact repr_of_reads' rd hs (PyData.noDict_hsm hn) hG (by omega) (fun _ _ z => z) (fun h' u tk hk => fin h' tk u hk) hz
  | tup h1 h2 =>
    cases ru
    exact repr_of_reads' rd hs (PyData.noDict_hsm hn) hG (by omega) (fun _ _ z => z) (fun h' u tk hk => fin h' tk u hk) hz
end
end RO

namespace RO
open PySem PySem.Spec PyProof.Rows L2

/-- the abstract heap at the law's entry: the script alone, locked, where the text itself doesn't hold it -/
def scriptH (K : PySem.W.Frag) (a : Addr) (o : Obj) (ns : List Int) : Hp := fun b => if b = a ∧ K.lookup a = none then some (.frz o (.lst (ns.map V.int))) else none

/-- the law's def is called as TURN's statement calls it -/
theorem law_runs {P : Program} {w : World} {K : PySem.W.Frag} {mg mb : Str → Option Value} {k : Nat} {fa a : Addr} {fd : FuncData} {x : Str} {sp : Sp} {s1 : Shared} {vs : List Value} {ns : List Int}
    (hK : K.In s1.heap) (hm : s1.heap.Ns mainGlobals mg) (hb : s1.heap.Ns builtinsNs mb) (hbb : ∀ y : Str, y ≠ "__name__" → mb y = bootBuiltins y) (hL : s1.heap.NoLimit) (hgn : s1.gens = #[])
    (ha : s1.heap.get? a = some { cls := .type "list", data := .seq vs.toArray }) (hi : IntsAre vs ns) (hn : ns.length ≤ sizeLine) (hr : Room k callerA)
    (F : ∀ base : Heap, K.In base → base.Ns mainGlobals mg → GOk P w K mg base CX0 k fa fd [x] sp) (hbd : ∀ (s : Shared) (u : Value), BindsTo s fd ⟨[u], []⟩ [(x, u)])
    (hsp : ∀ H : Hp, Only H → SqL K H a (ns.map V.int) → sp [.ref a] H (fun v _ => v = .bl true) fun _ _ _ => False) :
    codeAny (model P w) callerA (.call (.ref fa) ⟨[.ref a], []⟩) (fun r s' => r = .ok (.ret (.bool true)) ∧ OldK s1.heap s'.heap ∧ s'.os = s1.os ∧ AllBare s'.gens) s1 := by
  let ob : Obj := { cls := .type "list", data := .seq vs.toArray }
  let H : Hp := scriptH K a ob ns
  have hH : ∀ b u, H b = some u → b = a ∧ K.lookup a = none ∧ u = .frz ob (.lst (ns.map V.int)) := by
    intro b u z
    by_cases c : b = a ∧ K.lookup a = none
    · have z2 : (if b = a ∧ K.lookup a = none then some (HO.frz ob (.lst (ns.map V.int))) else none) = some u := z
      rw [if_pos c] at z2
      cases z2
      exact ⟨c.1, c.2, rfl⟩
    · have z2 : (if b = a ∧ K.lookup a = none then some (HO.frz ob (.lst (ns.map V.int))) else none) = some u := z
      rw [if_neg c] at z2
      cases z2
  have hOnly : Only H := fun b => by
    cases z : H b with
    | none => exact .inl rfl
    | some u => exact .inr ⟨ob, _, congrArg some (hH b u z).2.2⟩
  have rv := vals_ints hi
  have sizes : vs.length = ns.length := hi.length
  have hS : SqL K H a (ns.map V.int) := by
    cases z : K.lookup a with
    | some o =>
      have e := hK a o z
      rw [ha] at e
      cases e
      exact Or.inr ⟨_, vs.toArray, _, z, rfl, rfl, rfl, by rw [List.size_toArray, sizes]; exact hn, by simpa using rv⟩
    | none => exact Or.inl (Or.inr ⟨ob, if_pos ⟨rfl, z⟩⟩)
  have hOk : HOk P w H s1.heap := fun b u z => by
    obtain ⟨e1, _, e3⟩ := hH b u z
    subst e1
    subst e3
    exact ⟨ha, by rw [List.length_map]; exact hn, vs, _, rv, ha⟩
  have stays : ∀ {b : Addr} {o : Obj}, s1.heap.get? b = some o → H b = none → (hidT s1.heap H).get? b = some o := fun e n => hidT_get e n
  have keptK : K.In (hidT s1.heap H) := by
    intro b o z
    refine stays (hK b o z) ?_
    cases q : H b with
    | none => rfl
    | some u =>
      obtain ⟨e1, e2, _⟩ := hH b u q
      rw [e1, e2] at z
      cases z
  have keptN : ∀ {b : Addr} {m : Str → Option Value}, s1.heap.Ns b m → (hidT s1.heap H).Ns b m := by
    rintro b m ⟨o, es, ep, e, d, r⟩
    refine ⟨o, es, ep, stays e ?_, d, r⟩
    cases q : H b with
    | none => rfl
    | some u =>
      obtain ⟨e1, _, _⟩ := hH b u q
      rw [e1, ha] at e
      cases e
      exact nomatch (show Data.seq vs.toArray _ = Data.dict es ep from d)
  obtain ⟨mc, l1, l2⟩ := hL
  have start0 : Env0 P w K mg (hidT s1.heap H) callerA [] s1 H :=
    { frames := rfl
      mod := ⟨keptK, keptN hm, ⟨mb, keptN hb, hbb⟩, ⟨mc, keptN l1, l2⟩⟩
      bs := fun _ _ z => of_hidT z
      bsz := Nat.le_of_eq (hidT_size _ _)
      funs := trivial
      frf := fun b z => absurd (show b ∈ ([] : List Addr) from z) (by simp)
      hok := hOk
      bare := .of_eq hgn }
  apply codeAny_mono ((F _ keptK (keptN hm)).runs callerA [] s1 H ⟨[.ref a], []⟩ [.ref a] [.ref a] _ _ hr rfl start0 (hbd s1 (.ref a)) (.cons rfl .nil) (hsp H hOnly hS))
  intro r s' h
  match r, h with
  | .error _, h => exact h.elim
  | .ok .next, h => exact h.elim
  | .ok .brk, h => exact h.elim
  | .ok .cont, h => exact h.elim
  | .ok (.ret u), ⟨v, H', os, bare, un, hok', r', q⟩ =>
    have q' : v = .bl true := q
    subst q'
    have r2 : u = Value.bool true := r'
    subst r2
    refine ⟨rfl, OldK.of_keep fun b o e => ?_, os, bare⟩
    cases q : H b with
    | none => exact un.keep b o e q (by intro z; exact absurd (show b ∈ ([] : List Addr) from z) (by simp)) (by simp)
    | some t =>
      have q2 := q
      rw [(hH b t q).2.2] at q2
      have f1 := (hOk b _ q2).1
      have f2 := (hok' b _ (un.frzs b ob _ q2)).1
      rw [e] at f1
      rw [f2, f1]

/-- the goal behind the head, from the law's promise; the script's bits told -/
theorem walk_G {l : PySem.W.OpenLaw} {n k : Nat} {q : Program} {loose : List Str} {XP : (Str → Option Value) → Heap → Prop} {YP : World → Heap → Prop} {d : DefRec} {K : Params → PySem.W.Frag} {sp : PySem.W.Frag → Sp} {x : Str}
    (hn : l.most = some n) (hn2 : n ≤ sizeLine) (hdf : d.params.defaults = []) (hr : Room k callerA) (hY : ∀ (w : World) (h : Heap), YP w h → (K w.params).In h)
    (F : ∀ (w : World) (mg : Str → Option Value) (fa : Addr) (h : Heap), (K w.params).In h → h.Ns mainGlobals mg → mg d.name = some (.ref fa) →
      ∃ fd : FuncData, (∀ (s : Shared) (u : Value), BindsTo s fd ⟨[u], []⟩ [(x, u)]) ∧ ∀ base : Heap, (K w.params).In base → base.Ns mainGlobals mg → GOk l.prog w (K w.params) mg base CX0 k fa fd [x] (sp (K w.params)))
    (hsp : ∀ (K : PySem.W.Frag) (H : Hp) (a : Addr) (ns : List Int), ns.length ≤ n → (∀ k ∈ ns, Builtin.Int.intBits k ≤ 1048576) → Only H → SqL K H a (ns.map V.int) → sp K [.ref a] H (fun v _ => v = .bl true) fun _ _ _ => False) :
    PySem.W.WalkO q loose XP YP l.row.toRowW d [] (fun f vs => PySem.call f vs) := by
  apply Att.attach_callB hn hdf
  intro w s0 s1 mg mb fa o pm cd doc a vs ns G Y ho hd hcd hmg hobj hints hlen hbits hg
  have hK := hY w _ Y
  obtain ⟨fd, hb, hF⟩ := F w mg fa _ hK G.T.g hmg
  exact law_runs hK G.T.g G.T.b G.T.builtins G.T.nolimit hg hobj hints (Nat.le_trans hlen hn2) hr hF hb fun H hO hS => hsp (K w.params) H a ns hlen hbits hO hS
end RO

namespace RO
open PySem PySem.Spec PyProof.Rows L2

/-! ### enumerate of a tuple -/
theorem drawsT {prog : Program} {w : World} {A : Around} (hh : A.handled = none) (it t : Addr) (hne : t ≠ it) (items : Array Value) :
    Draws prog w A it [it, t] items.size (fun i v => items[i]? = some v) (fun i h => h.IsTupleIter it t i ∧ h.IsTuple t items) where
  live := fun _ _ st => by
    obtain ⟨⟨o, ho, _⟩, _⟩ := st
    exact ⟨o, ho⟩
  frame := fun i h h' st hk => ⟨Heap.IsTupleIter.at st.1 (hk it (List.mem_cons_self ..)), by
    obtain ⟨o, e, r⟩ := st.2
    exact ⟨o, hk t (by simp) o e, r⟩⟩
  item := fun i s Q E hi st hQ => RZ.nextOf_tuple_item st.1 st.2 (x := items[i]) (by simp [hi]) fun h' hit' sb =>
    hQ _ h' s.toks (by simp [hi]) ⟨hit', by
      obtain ⟨o, e, r⟩ := st.2
      exact ⟨o, (sb.2 t hne).trans e, r⟩⟩ sb
  done := fun s Q E st hE => RZ.nextOf_tuple_end hh st.1 st.2 (by simp) hE

open Sem (wp) in
open AutoSeq1 (wpAny_loadPart') in
theorem meets_enum_newT (l : Addr) (items : Array Value) (n : Nat) (dct : Option Addr) (sl : Array (Option Value)) :
    Meets (Builtin.«enumerate.__new__» ⟨[.type "enumerate", .ref l], []⟩) (fun _ R s => s.heap.get? l = some { cls := .type "tuple", dict := dct, data := .seq items n, slots := sl } ∧
      R (.ok (.ret (.ref (s.heap.push { cls := .type "tuple_iterator", data := .fields #[.ref l, .int 0 0] }).objs.size)))
        { s with heap := (s.heap.push { cls := .type "tuple_iterator", data := .fields #[.ref l, .int 0 0] }).push { cls := .type "enumerate", data := .fields #[.none, .bool false, .ref s.heap.objs.size, rawInt 0, .none, .none] } }) := by
  refine Meets.of_wp fun prog w A R s h => ?_
  obtain ⟨hp, g, d, tk, os⟩ := s
  obtain ⟨hl, h⟩ := h
  have hsub := sub_enumerate
  have hT : Heap.IsTuple (Shared.heap ⟨hp, g, d, tk, os⟩) l items := ⟨_, hl, rfl, n, rfl⟩
  wp_walk using wpAny_loadPart' hl
  refine wpAny_stack_any fun st => wpAny_pure ?_
  split
  · rename_i c _ _ _ _ _
    cases (c == Value.type "enumerate") <;>
      (wp_walk using wpAny_loadPart' hl, wpAny_pyIter_tuple hT; exact ⟨_, rfl, h⟩)
  · wp_walk using wpAny_loadPart' hl, wpAny_pyIter_tuple hT
    exact ⟨_, rfl, h⟩

theorem call_enumT {prog : Program} {w : World} {A : Around} {E : Value → Shared → Prop} {s : Shared} {l : Addr} {items : Array Value} {Q : Value → Shared → Prop} (hT : s.heap.IsTuple l items)
    (h : ∀ h', IsEnum h' (s.heap.objs.size + 1) s.heap.objs.size 0 .none → h'.IsTupleIter s.heap.objs.size l 0 → h'.objs.size = s.heap.objs.size + 2 → (∀ b o, s.heap.get? b = some o → h'.get? b = some o) →
      Q (.ref (s.heap.objs.size + 1)) { s with heap := h' }) : wpAny (model prog w) A (call (.type "enumerate") [.ref l]) Q E s := by
  obtain ⟨⟨c, dct, dt, sl⟩, hl, hc, n, hd⟩ := hT
  have hc' : c = .type "tuple" := hc
  have hd' : dt = .seq items n := hd
  subst hc' hd'
  apply callType_new F.called_enumerate (by decide) (F.typeCall_enumerate_1 _) (F.newCall_enumerate_1 _) (fun obj => F.args_object_init_2 obj _) F.entry_enumerate_new (meets_enum_newT l items n dct sl)
  refine ⟨hl, ?_⟩
  let h1 := s.heap.push { cls := .type "tuple_iterator", data := .fields #[.ref l, .int 0 0] }
  have hz : h1.objs.size = s.heap.objs.size + 1 := Heap.size_push ..
  show _ ∧ _
  rw [show (s.heap.push { cls := .type "tuple_iterator", data := .fields #[.ref l, .int 0 0] }).objs.size = s.heap.objs.size + 1 from hz]
  have he : IsEnum (h1.push { cls := .type "enumerate", data := .fields #[.none, .bool false, .ref s.heap.objs.size, rawInt 0, .none, .none] }) (s.heap.objs.size + 1) s.heap.objs.size 0 .none := by
    have z := Heap.get?_push_size h1 (o := { cls := .type "enumerate", data := .fields #[.none, .bool false, .ref s.heap.objs.size, rawInt 0, .none, .none] }) rfl
    rw [hz] at z
    exact z
  exact ⟨⟨_, he, rfl⟩, h _ he ⟨_, Heap.get?_push_of_some _ (Heap.get?_push_size _ rfl), rfl, rfl⟩ ((Heap.size_push ..).trans (congrArg (· + 1) hz)) fun b o x => Heap.get?_push_of_some _ (Heap.get?_push_of_some _ x)⟩

/-- the tuple at a, each item in a new pair with its number -/
def IteT (K : PySem.W.Frag) (a : Addr) : It where
  go := fun i H => ∃ (xs : List V) (x : V), SqT K H a xs ∧ xs[i]? = some x
  yld := fun i H v H' => ∃ T x, v = .ref T ∧ H T = none ∧ H' = upd H T (.tup [.int (i : Nat), x]) ∧ ∀ xs, SqT K H a xs → xs[i]? = some x
  stop := fun i H => ∃ xs : List V, SqT K H a xs ∧ xs.length = i

theorem turn_enumT {P : Program} {w : World} {K : PySem.W.Frag} {elts : List Expr} {kk : Nat} {tpos : Pos} (a e it : Addr) (hae : a ≠ e) (hai : a ≠ it) (hne : e ≠ it) :
    Turn P w K (.Tuple elts kk tpos) (IteT K a) [e, it] e (fun i h => (∃ old, IsEnum h e it ((i : Nat) : Int) old) ∧ h.IsTupleIter it a i) where
  mem := List.mem_cons_self ..
  obj := fun i h st b hb => by
    obtain ⟨⟨old, he⟩, ⟨o, ho, hc, hd⟩⟩ := st
    rcases List.mem_cons.mp hb with z | z
    · rw [z]
      exact ⟨_, he, fun v q => nomatch q⟩
    · have z' : b = it := by simpa using z
      exact ⟨o, z' ▸ ho, fun v q => by rw [hd] at q; cases q⟩
  keep := fun i h h' st k => by
    obtain ⟨⟨old, he⟩, hi⟩ := st
    exact ⟨⟨old, k e (by simp) _ he⟩, Heap.IsTupleIter.at hi (k it (by simp))⟩
  item := by
    intro X hP hw hK hc i pins s σ H E I hf st hg
    subst hP hw hK
    obtain ⟨⟨old, he⟩, hit⟩ := st
    obtain ⟨xs, x, hq, hx⟩ := hg
    obtain ⟨its, rv, p, hz⟩ := I.tuple hq
    obtain ⟨u, hu, ru⟩ := rv.get hx
    have hlt : i < its.toArray.size := by
      obtain ⟨z, _⟩ := List.getElem?_eq_some_iff.mp hu
      simpa using z
    have hel : e < s.heap.objs.size := Heap.lt_size he
    have hil : it < s.heap.objs.size := by
      obtain ⟨_, q, _⟩ := hit
      exact Heap.lt_size q
    refine wpAny_pyNext_enum_itemD (drawsT (A := X.A.in1) (I.ok.hd hc) it a hai its.toArray) he ⟨hit, p⟩ hlt hne (by simp [hne, Ne.symm hae]) fun y h' tk hy ho hst hT hsz hk => ?_
    have ey : y = u := by
      have z : its.toArray[i]? = some u := by simpa using hu
      exact Option.some.inj (hy.symm.trans z)
    subst ey
    refine ⟨_, rfl, wpAny_letOwnedTupleGo_enum (s := { s with heap := h', toks := tk + 1 }) ho fun h2 he2 sb => ?_⟩
    have hT2 : h2.get? s.heap.objs.size = some { cls := .type "tuple", data := .seq #[.int i tk, y] } := (sb.2 _ (Nat.ne_of_gt hel)).trans hT
    have new : ObjOk X.prog X.w (upd H s.heap.objs.size (.tup [.int (i : Nat), x])) h2 s.heap.objs.size (.tup [.int (i : Nat), x]) := by
      refine ⟨by show 2 ≤ sizeLine; decide, [.int i tk, y], .cons ⟨_, rfl⟩ (.cons ru .nil), ⟨_, hT2, rfl, _, rfl⟩⟩
    have I1 : Inv X pins σ (upd H s.heap.objs.size (.tup [.int (i : Nat), x])) { s with heap := h2, toks := tk + 1 } := by
      refine I.turnedNew (ch := [e, it]) (fun b ob hb q => ?_) hf (Nat.le_refl _) new
      have n1 : b ≠ e := fun z => hb (by simp [z])
      have n2 : b ≠ it := fun z => hb (by simp [z])
      exact (sb.2 b n1).trans (hk b ob n1 n2 q)
    refine ⟨.ref s.heap.objs.size, _, I1, rfl, ⟨_, x, rfl, I.hok.fresh (Nat.le_refl _), rfl, fun ys hy => (I.tuple_inj hy hq).symm ▸ hx⟩, ⟨⟨y, ?_⟩, Heap.IsTupleIter.at hst.1 fun o q => (sb.2 it (Ne.symm hne)).trans q⟩, fun b hb => ?_⟩
    · rw [show ((i + 1 : Nat) : Int) = (i : Int) + 1 from by omega]
      exact he2
    · have hb2 : b = e ∨ b = it := by simpa using hb
      have lt : b < s.heap.objs.size := hb2.elim (fun z => z ▸ hel) fun z => z ▸ hil
      exact (upd_ne (Nat.ne_of_lt lt)).trans (hf b hb).1
  done := by
    intro X hP hw hK hc i pins s σ H E I hf st hg
    subst hP hw hK
    obtain ⟨⟨old, he⟩, hit⟩ := st
    obtain ⟨xs, hq, hx⟩ := hg
    obtain ⟨its, rv, p, hz⟩ := I.tuple hq
    obtain ⟨f0, f1, f2, f3, f4, f5⟩ := hf it (by simp)
    have hl : its.toArray.size = i := by
      rw [List.size_toArray, ← rv.length, hx]
    rw [← hl] at hit
    exact wpAny_pyNext_enum_endD (drawsT (A := X.A.in1) (I.ok.hd hc) it a hai its.toArray) he ⟨hit, p⟩ fun h' eb => ⟨rfl, I.turned (t' := s.toks) (fun b o hb q => eb b o hb q) f0 f1 f3 f4 f5⟩
  self := fun A i s Q E st h => by
    obtain ⟨⟨_, he⟩, _⟩ := st
    exact wpAny_pyIter_enum he h

/-- enumerate(x), x a list or a tuple -/
def iEnumA (K : PySem.W.Frag) (ta : TA) : TI := fun σ H R => ta σ H fun vs H1 => ∃ a xs, vs = [.ref a] ∧ ((SqL K H1 a xs ∧ R (Ite K a) H1) ∨ (SqT K H1 a xs ∧ R (IteT K a) H1))
theorem pi_enumA {X : Cx} {e : Expr} {ta : TA} {p pos tpos : Pos} {elts : List Expr} {kk : Nat} (hg : Gl X "enumerate") (hm : X.mg "enumerate" = none) (ha : PA X [e] ta) (hs : starEach [e] X.env = [(false, eval e X.env)] := by rfl) :
    PI X (.Tuple elts kk tpos) (.Call (.Name "enumerate" p) [e] [] pos) (iEnumA X.K ta) := by
  constructor
  intro pins s σ H R I h
  refine Call_ ?_
  apply ld_blt I hg hm boot_enumerate
  apply PyProof.Rows.callWith_type1 _ hs rfl
  apply thn (ha.run pos pins s σ H _ I h)
  rintro us s1 ⟨vs, H1, I1, r1, a, xs, ex, q⟩
  subst ex
  obtain ⟨u, rfl, ru⟩ := vals1 r1
  obtain rfl : u = Value.ref a := ru
  have hle : ∀ b, b ∈ [s1.heap.objs.size + 1, s1.heap.objs.size] → FpOk X pins H1 b := fun b hb => by
    have z : b = s1.heap.objs.size + 1 ∨ b = s1.heap.objs.size := by simpa using hb
    have l : s1.heap.objs.size ≤ b := by omega
    exact I1.fpOk l (I1.hok.fresh l)
  rcases q with ⟨hq, q⟩ | ⟨hq, q⟩
  · obtain ⟨its, rv, p', hz⟩ := I1.list hq
    refine call_enumerate_list p'.isList fun h' he hit hsz hk => wpAny_pyIter_enum he ?_
    exact ⟨s1.heap.objs.size + 1, [s1.heap.objs.size + 1, s1.heap.objs.size], _, _, H1, rfl, I1.kept (t' := s1.toks) hk, turn_enum a (s1.heap.objs.size + 1) s1.heap.objs.size, ⟨⟨.none, he⟩, hit, Nat.succ_ne_self _⟩, hle, q⟩
  · obtain ⟨its, rv, p', hz⟩ := I1.tuple hq
    obtain ⟨o, ho, _⟩ := id p'
    have hal : a < s1.heap.objs.size := Heap.lt_size ho
    refine call_enumT p' fun h' he hit hsz hk => wpAny_pyIter_enum he ?_
    exact ⟨s1.heap.objs.size + 1, [s1.heap.objs.size + 1, s1.heap.objs.size], _, _, H1, rfl, I1.kept (t' := s1.toks) hk, turn_enumT a (s1.heap.objs.size + 1) s1.heap.objs.size (Nat.ne_of_lt (Nat.lt_succ_of_lt hal)) (Nat.ne_of_lt hal) (Nat.succ_ne_self _), ⟨⟨.none, he⟩, hit⟩, hle, q⟩

section
variable {K : PySem.W.Frag} {a : Addr} {xs : List V}
theorem walk_enumT : Walk (IteT K a) xs.length (fun H => SqT K H a xs) (YPair (fun i => some (.int (i : Nat))) (fun i => xs[i]?)) where
  goes := fun i _ hi q => ⟨xs, xs[i], q, by simp [hi]⟩
  stops := fun _ q => ⟨xs, q, rfl⟩
  yields := fun i H v H' _ q y => by
    obtain ⟨T, x, h1, h2, h3, h4⟩ := y
    exact ⟨T, _, x, h1, h2, h3, rfl, h4 xs q⟩
theorem walk_revT : Walk (RT.ItvT K a xs.length) xs.length (fun H => SqT K H a xs) (fun i H x H' => H' = H ∧ xs[xs.length - 1 - i]? = some x) where
  goes := fun i _ hi q => ⟨hi, xs, xs[xs.length - 1 - i], q, by
    have : xs.length - 1 - i < xs.length := by omega
    simp [this]⟩
  stops := fun _ _ => Nat.le_refl _
  yields := fun i H v H' _ q y => ⟨y.1, y.2 xs q⟩
end
end RO

namespace RO
open PySem PySem.Spec PyProof.Rows L2

/-! ### heaps -/
/-- what is tracked, but at p, is kept -/
def But (p : Addr) (H H' : Hp) : Prop := ∀ b o, b ≠ p → H b = some o → H' b = some o
section
variable {K : PySem.W.Frag} {H H0 H1 H2 : Hp} {p q a c l : Addr} {o : HO} {xs : List V} {n m : Nat}
theorem But.refl : But p H H := fun _ _ _ h => h
theorem But.trans (h : But p H H1) (h2 : But p H1 H2) : But p H H2 := fun b u n e => h2 b u n (h b u n e)
theorem But.of_same (h : Same H H1) : But p H H1 := fun b u _ e => h b u e
theorem But.put : But p H (upd H p o) := fun b u n e => (upd_ne n).trans e
theorem But.new (h : But p H0 H) (hq : H q = none) : But p H0 (upd H q o) := fun b u n e => (upd_ne (ne_of_none (h b u n e) hq)).trans (h b u n e)
/-- a place that was free at the beginning may be written -/
theorem But.own (h : But p H0 H) (hl : H0 l = none) : But p H0 (upd H l o) := fun b u n e => (upd_ne (ne_of_none e hl)).trans (h b u n e)
theorem But.rd {u : HO} (h : But p H H1) (n : a ≠ p) (r : Rd H a u) : Rd H1 a u := by
  rcases r with r | ⟨o, r⟩
  · exact .inl (h _ _ n r)
  · exact .inr ⟨o, h _ _ n r⟩
theorem But.seqL (h : But p H H1) (n : a ≠ p) (r : SqL K H a xs) : SqL K H1 a xs := r.imp (h.rd n) id
theorem But.seqT (h : But p H H1) (n : a ≠ p) (r : SqT K H a xs) : SqT K H1 a xs := r.imp (h.rd n) id
theorem same_rd {u : HO} (h : Same H H1) (r : Rd H a u) : Rd H1 a u := by
  rcases r with r | ⟨o, r⟩
  · exact .inl (h _ _ r)
  · exact .inr ⟨o, h _ _ r⟩
theorem same_seqL (h : Same H H1) (r : SqL K H a xs) : SqL K H1 a xs := r.imp (same_rd h) id
theorem same_seqT (h : Same H H1) (r : SqT K H a xs) : SqT K H1 a xs := r.imp (same_rd h) id
theorem same_new (h : Same H0 H) (hq : H q = none) : Same H0 (upd H q o) := fun b u e => (upd_ne (ne_of_none (h b u e) hq)).trans (h b u e)
theorem same_own (h : Same H0 H) (hl : H0 l = none) : Same H0 (upd H l o) := fun b u e => (upd_ne (ne_of_none e hl)).trans (h b u e)

theorem alloc (hl : H l = none) (e : upd H l o = H1) : Same H H1 ∧ H1 l = some o := by
  subst e
  exact ⟨same_new (Same.refl _) hl, upd_same⟩

theorem owned (S : Same H0 H) (hl : H0 l = none) (e : upd H l o = H1) : Same H0 H1 ∧ H1 l = some o := by
  subst e
  exact ⟨same_own S hl, upd_same⟩

/-! ### the law's pen: a list of the script's cells, a place, a rest -/
def PenAt (H : Hp) (p c : Addr) (n : Nat) : Prop := ∃ at_ cy : Int, H p = some (.lst [.ref c, .int at_, .int cy]) ∧ 0 ≤ at_ ∧ at_ ≤ n ∧ 0 ≤ cy
def Cells (K : PySem.W.Frag) (H : Hp) (p c : Addr) : Prop := c ≠ p ∧ ∃ ns : List Int, SqL K H c (ns.map V.int) ∧ ns.length ≤ 63
/-- from H0 to H: the pen at p has gone on to n draws at most, all else is kept -/
structure Go (K : PySem.W.Frag) (p c : Addr) (H0 : Hp) (n : Nat) (H : Hp) : Prop where
  but : But p H0 H
  pen : PenAt H p c n
  cel : Cells K H p c
theorem Cells.but (h : Cells K H p c) (b : But p H H1) : Cells K H1 p c := by
  obtain ⟨ne, ns, r, l⟩ := h
  exact ⟨ne, ns, b.seqL ne r, l⟩
theorem PenAt.mono (h : PenAt H p c n) (hm : n ≤ m) : PenAt H p c m := by
  obtain ⟨i, j, e, h1, h2, h3⟩ := h
  exact ⟨i, j, e, h1, by omega, h3⟩
theorem Go.refl (h : PenAt H p c n) (hc : Cells K H p c) : Go K p c H n H := ⟨But.refl, h, hc⟩
theorem Go.self (g : Go K p c H0 n H) : Go K p c H n H := ⟨But.refl, g.pen, g.cel⟩
theorem Go.mono (g : Go K p c H0 n H) (hm : n ≤ m) : Go K p c H0 m H := ⟨g.but, g.pen.mono hm, g.cel⟩
theorem Go.trans (g : Go K p c H0 n H1) (g2 : Go K p c H1 m H2) : Go K p c H0 m H2 := ⟨g.but.trans g2.but, g2.pen, g2.cel⟩
theorem Go.tracked (g : Go K p c H0 n H) : ∃ o, H p = some o := by
  obtain ⟨_, _, e, _⟩ := g.pen
  exact ⟨_, e⟩
theorem Go.ne_new (g : Go K p c H0 n H) (hq : H q = none) : p ≠ q := by
  obtain ⟨o, e⟩ := g.tracked
  exact ne_of_none e hq
theorem Go.make {i j : Int} (hc : Cells K H0 p c) (b : But p H0 H) (e : H p = some (.lst [.ref c, .int i, .int j])) (h1 : 0 ≤ i) (h2 : i ≤ (n : Nat)) (h3 : 0 ≤ j) : Go K p c H0 n H := ⟨b, ⟨i, j, e, h1, h2, h3⟩, hc.but b⟩
theorem Go.free (g : Go K p c H0 n H) (hq : H q = none) : H0 q = none := by
  cases z : H0 q with
  | none => rfl
  | some o => exact absurd (g.but q o (Ne.symm (g.ne_new hq)) z) (by rw [hq]; exact nofun)
/-- a new object -/
theorem Go.new (g : Go K p c H0 n H) (hq : H q = none) : Go K p c H0 n (upd H q o) := by
  have hp := g.ne_new hq
  obtain ⟨i, j, e, r⟩ := id g.pen
  have b1 : But p H (upd H q o) := But.refl.new hq
  exact ⟨g.but.new hq, ⟨i, j, (upd_ne hp).trans e, r⟩, g.cel.but b1⟩
/-- an own object is written: it was free at the beginning; the cells aren't it -/
theorem Go.own (g : Go K p c H0 n H) (hl : H0 l = none) (hp : l ≠ p) (hc : Cells K H0 p c) : Go K p c H0 n (upd H l o) := by
  obtain ⟨i, j, e, r⟩ := id g.pen
  exact ⟨g.but.own hl, ⟨i, j, (upd_ne (Ne.symm hp)).trans e, r⟩, hc.but (g.but.own hl)⟩
theorem Go.same (g : Go K p c H0 n H) (h : Same H H1) : Go K p c H0 n H1 := by
  obtain ⟨i, j, e, r⟩ := id g.pen
  exact ⟨g.but.trans (But.of_same h), ⟨i, j, h _ _ e, r⟩, g.cel.but (But.of_same h)⟩
end

/-! ### numbers -/
theorem fmod_lt {a b : Int} (h : 0 < b) : Int.fmod a b < b := Int.fmod_lt_of_pos a h
theorem fmod_ge {a b : Int} (h : 0 < b) : 0 ≤ Int.fmod a b := Int.fmod_nonneg_of_pos a h
theorem fdiv_ge {a b : Int} (h : 0 ≤ a) (h2 : 0 ≤ b) : 0 ≤ Int.fdiv a b := Int.fdiv_nonneg h h2

theorem atI_fmod {α : Type} {xs : List α} {i : Int} (h : 0 < xs.length) : ∃ v, v ∈ xs ∧ atI xs (Int.fmod i xs.length) = some v := by
  have h0 : (0 : Int) < xs.length := by omega
  have g := fmod_ge (a := i) h0
  have l := fmod_lt (a := i) h0
  obtain ⟨j, e⟩ := Int.eq_ofNat_of_zero_le g
  rw [e] at l ⊢
  have hj : j < xs.length := by omega
  exact ⟨xs[j], List.getElem_mem hj, atI_nat (List.getElem?_eq_getElem hj)⟩
theorem atI_lt {α : Type} {xs : List α} {i : Int} (h0 : 0 ≤ i) (h : i < xs.length) : ∃ v, v ∈ xs ∧ atI xs i = some v := by
  obtain ⟨j, rfl⟩ := Int.eq_ofNat_of_zero_le h0
  have hj : j < xs.length := by omega
  exact ⟨xs[j], List.getElem_mem hj, atI_nat (List.getElem?_eq_getElem hj)⟩

/-! ### data whose repr is short -/
structure RepOk (d : PyData) (k n : Nat) : Prop where
  sh : d.showable = true
  nd : d.hasDict = false
  dp : d.depth ≤ k
  lv : d.leavesShort 400 = true
  cl : d.canLay0 = true
  bk : d.bulk ≤ n
theorem RepOk.mono {d : PyData} {k n k' n' : Nat} (h : RepOk d k n) (hk : k ≤ k') (hn : n ≤ n') : RepOk d k' n' := ⟨h.sh, h.nd, Nat.le_trans h.dp hk, h.lv, h.cl, Nat.le_trans h.bk hn⟩
theorem RepOk.fits {d : PyData} {k n : Nat} (h : RepOk d k n) (hn : n ≤ 40000) : d.shown.length ≤ sizeLine := by
  have e := PyData.shown_le_bulk 400 (by decide) d h.lv
  have b := h.bk
  have : (400 + 2) * d.bulk ≤ 402 * 40000 := Nat.mul_le_mul (by decide) (by omega)
  rw [sizeLine_eq]
  omega
theorem RepOk.none : RepOk .none 0 0 := ⟨rfl, rfl, Nat.le_refl _, by decide +kernel, rfl, Nat.le_refl _⟩
theorem RepOk.bool (b : Bool) : RepOk (.bool b) 0 0 := ⟨rfl, rfl, Nat.le_refl _, by cases b <;> decide +kernel, rfl, Nat.le_refl _⟩
theorem log2_small {i : Int} (h : i.natAbs < 2 ^ 398) : i.natAbs.log2 < 398 := by
  by_cases z : i.natAbs = 0
  · rw [z]
    decide
  · exact (Nat.log2_lt z).mpr h
theorem RepOk.int {i : Int} (h : i.natAbs < 2 ^ 398) : RepOk (.int i) 0 0 := by
  have l := log2_small h
  refine ⟨?_, rfl, Nat.le_refl _, ?_, rfl, Nat.le_refl _⟩
  · simp only [PyData.showable, decide_eq_true_eq]
    omega
  · have e := int_text_length_le (a := i) (k := 398) (by decide) l
    have e2 : (Str.ofString (toString i)).length = (toString i).length := PySem.ofString_length _
    have e3 : (PyData.int i).shown.length ≤ 400 := by
      show (Str.ofString (toString i)).length ≤ 400
      rw [e2]
      exact Nat.le_trans e (by decide)
    unfold PyData.leavesShort
    exact decide_eq_true e3
theorem RepOk.str {x : Str} {n : Nat} (h : x.length ≤ n) (hc : ∀ c ∈ x.cps.toList, c < 16 ^ 8) (ho : (PyData.str x).canLay0 = true) : RepOk (.str x) 0 n := by
  refine ⟨rfl, rfl, Nat.le_refl _, ?_, ho, h⟩
  simp only [PyData.leavesShort, List.all_eq_true, decide_eq_true_eq]
  exact hc
theorem rep_all {ds : List PyData} {k n : Nat} : (∀ d ∈ ds, RepOk d k n) → PyData.showableAll ds = true ∧ PyData.hasDictAll ds = false ∧ PyData.depthAll ds ≤ k ∧ PyData.leavesShortAll 400 ds = true ∧ PyData.canLayAll0 ds = true ∧ PyData.bulkAll ds ≤ ds.length * (n + 1) := by
  induction ds with
  | nil => intro _; exact ⟨rfl, rfl, Nat.zero_le _, rfl, rfl, Nat.zero_le _⟩
  | cons d r ih =>
    intro h
    obtain ⟨h1, h2, h3, h4, h6, h5⟩ := ih fun x hx => h x (List.mem_cons_of_mem _ hx)
    have q := h d (List.mem_cons_self ..)
    refine ⟨?_, ?_, ?_, ?_, ?_, ?_⟩
    · simp only [PyData.showableAll, q.sh, h1, Bool.and_self]
    · simp only [PyData.hasDictAll, q.nd, h2, Bool.or_self]
    · simp only [PyData.depthAll]
      exact Nat.max_le.mpr ⟨q.dp, h3⟩
    · simp only [PyData.leavesShortAll, q.lv, h4, Bool.and_self]
    · simp only [PyData.canLayAll0, q.cl, h6, Bool.and_self]
    · simp only [PyData.bulkAll, List.length_cons]
      have b := q.bk
      have e : (r.length + 1) * (n + 1) = r.length * (n + 1) + (n + 1) := Nat.succ_mul _ _
      omega
theorem RepOk.list {ds : List PyData} {k n : Nat} (h : ∀ d ∈ ds, RepOk d k n) : RepOk (.list ds) (k + 1) (ds.length * (n + 1)) := by
  obtain ⟨h1, h2, h3, h4, h6, h5⟩ := rep_all h
  exact ⟨by simpa only [PyData.showable] using h1, by simpa only [PyData.hasDict] using h2, by simp only [PyData.depth]; omega, by simpa only [PyData.leavesShort] using h4, by simpa only [PyData.canLay0] using h6, by simpa only [PyData.bulk] using h5⟩
theorem RepOk.tuple {ds : List PyData} {k n : Nat} (h : ∀ d ∈ ds, RepOk d k n) : RepOk (.tuple ds) (k + 1) (ds.length * (n + 1)) := by
  obtain ⟨h1, h2, h3, h4, h6, h5⟩ := rep_all h
  exact ⟨by simpa only [PyData.showable] using h1, by simpa only [PyData.hasDict] using h2, by simp only [PyData.depth]; omega, by simpa only [PyData.leavesShort] using h4, by simpa only [PyData.canLay0] using h6, by simpa only [PyData.bulk] using h5⟩

theorem RepOk.shaped {d : PyData} {k n : Nat} (h : RepOk d k n) (hk : k ≤ 64) : SeqAt.shaped d = true := by
  unfold SeqAt.shaped
  rw [h.cl, Bool.true_and]
  exact decide_eq_true (Nat.le_trans h.dp hk)
/-- repr(x): its text, by the data alone -/
def rRepr2 (K : PySem.W.Frag) : List V → Hp → VK → Prop := fun xs H Q => ∃ v d k n, xs = [v] ∧ Dp K H v d ∧ RepOk d k n ∧ k ≤ 40 ∧ n ≤ 40000 ∧ Q (.str d.shown) H
theorem call_reprD {X : Cx} (hG : X.A.guards = some []) (hu : X.A.units + 64 < cLine) : CallR X (.builtin "repr") (rRepr2 X.K) := by
  intro pins s σ H xs us Q I r h
  obtain ⟨v, d, k, n, e, hd, ok, hk, hn, q⟩ := h
  exact call_repr hG hu pins s σ H xs us Q I r ⟨v, d, e, hd, ok.sh, ok.nd, Nat.le_trans ok.dp hk, ok.fits hn, q⟩

/-! data that is read at one heap is read at each that keeps what is tracked -/
section
variable {K : PySem.W.Frag} {H H1 : Hp}
mutual
theorem dp_same (h : Same H H1) : ∀ (d : PyData) (v : V), Dp K H v d → Dp K H1 v d
  | .none, _, q => by
    cases q
    exact .non
  | .bool b, _, q => by
    cases q
    exact .bl b
  | .int i, _, q => by
    cases q
    exact .int i
  | .str x, _, q => by
    cases q
    exact .str x
  | .list ds, _, q => by
    cases q with
    | lst h1 h2 => exact .lst (same_seqL h h1) (dpAll_same h ds _ h2)
  | .tuple ds, _, q => by
    cases q with
    | tup h1 h2 => exact .tup (same_seqT h h1) (dpAll_same h ds _ h2)
  | .dict _, _, q => nomatch q
theorem dpAll_same (h : Same H H1) : ∀ (ds : List PyData) (vs : List V), DpAll K H vs ds → DpAll K H1 vs ds
  | [], _, q => by
    cases q
    exact .nil
  | d :: ds, _, q => by
    cases q with
    | cons h1 h2 => exact .cons (dp_same h d _ h1) (dpAll_same h ds _ h2)
end
/-- flat things as data -/
theorem dpAll_ints : ∀ ns : List Int, DpAll K H (ns.map V.int) (ns.map PyData.int)
  | [] => .nil
  | n :: r => .cons (.int n) (dpAll_ints r)
theorem dpAll_strs : ∀ ns : List Str, DpAll K H (ns.map V.str) (ns.map PyData.str)
  | [] => .nil
  | n :: r => .cons (.str n) (dpAll_strs r)
theorem DpAll.map {α : Type} {f : α → V} {g : α → PyData} : ∀ {l : List α}, (∀ x ∈ l, Dp K H (f x) (g x)) → DpAll K H (l.map f) (l.map g)
  | [], _ => .nil
  | x :: r, h => .cons (h x (List.mem_cons_self ..)) (DpAll.map fun y hy => h y (List.mem_cons_of_mem _ hy))
end
end RO

namespace RO
open PySem PySem.Spec PyProof.Rows L2

/-! ### short texts -/
def TOk (k : Nat) (t : Str) : Prop := t.length ≤ k ∧ ∀ c ∈ t.cps.toList, c < 128
theorem TOk.mono {k j : Nat} {t : Str} (h : TOk k t) (l : k ≤ j) : TOk j t := ⟨Nat.le_trans h.1 l, h.2⟩
theorem str_len (t : Str) : t.length = t.cps.toList.length := by
  show t.cps.size = _
  simp
theorem cut_ok {k : Nat} {t : Str} (h : TOk k t) (lo hi : Option Int) : TOk k (cutS t lo hi) := by
  refine ⟨?_, fun c hc => ?_⟩
  · have e := str_len (cutS t lo hi)
    have e2 := str_len t
    have l := h.1
    rw [e]
    unfold cutS
    simp only [List.length_take, List.length_drop]
    omega
  · unfold cutS at hc
    simp only at hc
    exact h.2 c (List.mem_of_mem_drop (List.mem_of_mem_take hc))
theorem codes_app (a b : Str) : (a ++ b).cps.toList = a.cps.toList ++ b.cps.toList := by
  show (a.cps ++ b.cps).toList = _
  simp
theorem codes_join0 : ∀ l : List Str, (Str.join (Str.ofString "") l).cps.toList = l.flatMap (·.cps.toList)
  | [] => rfl
  | [x] => by
    show x.cps.toList = _
    simp
  | x :: y :: r => by
    show (x ++ Str.ofString "" ++ Str.join (Str.ofString "") (y :: r)).cps.toList = _
    rw [codes_app, codes_app, codes_join0 (y :: r)]
    have : (Str.ofString "").cps.toList = [] := by decide +kernel
    rw [this, List.append_nil]
    simp only [List.flatMap_cons]
/-- signs put together -/
theorem join_ok {l : List Str} (h : ∀ x ∈ l, TOk 1 x) : TOk l.length (Str.join (Str.ofString "") l) := by
  refine ⟨?_, fun c hc => ?_⟩
  · rw [str_len, codes_join0]
    induction l with
    | nil => exact Nat.le_refl _
    | cons x r ih =>
      have a := (h x (List.mem_cons_self ..)).1
      rw [str_len] at a
      have b := ih fun y hy => h y (List.mem_cons_of_mem _ hy)
      rw [List.flatMap_cons, List.length_append, List.length_cons]
      omega
  · rw [codes_join0] at hc
    obtain ⟨x, hx, hc⟩ := List.mem_flatMap.mp hc
    exact (h x hx).2 c hc
theorem RepOk.tok {k : Nat} {t : Str} (h : TOk k t) : RepOk (.str t) 0 k := by
  refine RepOk.str h.1 (fun c hc => Nat.lt_of_lt_of_le (h.2 c hc) (by decide)) ?_
  simp only [PyData.canLay0, PyData.strOk, ← Array.all_toList, List.all_eq_true, decide_eq_true_eq]
  exact fun c hc => Nat.lt_of_lt_of_le (h.2 c hc) (by decide)

/-! ### rows -/
/-- what a row bears -/
inductive What where
  | order (i : Int)
  | name (t : Str)
  deriving DecidableEq
def What.v : What → V
  | .order i => .int i
  | .name t => .str t
def What.d : What → PyData
  | .order i => .int i
  | .name t => .str t
theorem What.v_inj {a b : What} (h : a.v = b.v) : a = b := by
  cases a <;> cases b <;> simp_all [What.v]
theorem What.dp {K : PySem.W.Frag} {H : Hp} (x : What) : Dp K H x.v x.d := by
  cases x with
  | order i => exact .int i
  | name t => exact .str t
theorem What.rep {x : What} (h : (∃ i : Int, x = .order i ∧ -4 ≤ i ∧ i ≤ 4) ∨ ∃ t, x = .name t ∧ TOk 8 t) : RepOk x.d 0 8 := by
  rcases h with ⟨i, rfl, h1, h2⟩ | ⟨t, rfl, h⟩
  · exact (RepOk.int (by omega)).mono (Nat.le_refl _) (by omega)
  · exact RepOk.tok h
theorem scal_what (x y : What) : scal x.v y.v = true := by cases x <;> cases y <;> rfl
theorem What.flat (x : What) : flatV x.v = true := by cases x <;> rfl
structure Row where
  m : Int
  l : Str
  w : What
def lines6 : List Str := ["port", "star", "down", "aport", "astar", "up"]
def tubes : List Str := ["down", "up"]
/-- a row as DOC asks -/
structure Row.Ok (r : Row) : Prop where
  m0 : 0 ≤ r.m
  m1 : r.m ≤ 99999
  ln : r.l ∈ lines6
  wh : (r.l ∈ tubes ∧ ∃ t, r.w = .name t ∧ TOk 8 t) ∨ (r.l ∉ tubes ∧ ∃ i, r.w = .order i ∧ -4 ≤ i ∧ i ≤ 4)
theorem lines6_ok : ∀ l ∈ lines6, TOk 8 l := by
  intro l h
  have h2 : l = "port" ∨ l = "star" ∨ l = "down" ∨ l = "aport" ∨ l = "astar" ∨ l = "up" := by simpa [lines6] using h
  rcases h2 with rfl | rfl | rfl | rfl | rfl | rfl <;> exact ⟨by decide +kernel, by decide +kernel⟩
def Row.d (r : Row) : PyData := .tuple [.int r.m, .str r.l, r.w.d]
theorem Row.Ok.rep {r : Row} (h : r.Ok) : RepOk r.d 1 27 := by
  refine (RepOk.tuple (k := 0) (n := 8) fun d hd => ?_).mono (Nat.le_refl _) (by show 3 * 9 ≤ 27; omega)
  have z : d = .int r.m ∨ d = .str r.l ∨ d = r.w.d := by simpa using hd
  rcases z with rfl | rfl | rfl
  · exact (RepOk.int (by have := h.m0; have := h.m1; omega)).mono (Nat.le_refl _) (by omega)
  · exact RepOk.tok (lines6_ok _ h.ln)
  · refine What.rep ?_
    rcases h.wh with ⟨_, t, e, q⟩ | ⟨_, i, e, q1, q2⟩
    · exact .inr ⟨t, e, q⟩
    · exact .inl ⟨i, e, q1, q2⟩

/-- the row r stands at a -/
def RowAt (K : PySem.W.Frag) (H : Hp) (a : Addr) (r : Row) : Prop := SqT K H a [.int r.m, .str r.l, r.w.v]
/-- rows at places -/
inductive RowsAt (K : PySem.W.Frag) (H : Hp) : List Addr → List Row → Prop
  | nil : RowsAt K H [] []
  | cons {a : Addr} {r : Row} {as : List Addr} {rs : List Row} : RowAt K H a r → RowsAt K H as rs → RowsAt K H (a :: as) (r :: rs)
/-- the log rs stands at t -/
def LogAt (K : PySem.W.Frag) (H : Hp) (t : Addr) (rs : List Row) : Prop := ∃ as : List Addr, SqT K H t (as.map V.ref) ∧ RowsAt K H as rs
section
variable {K : PySem.W.Frag} {H H1 : Hp} {t a : Addr} {as : List Addr} {rs : List Row} {r : Row}
theorem RowsAt.length (h : RowsAt K H as rs) : as.length = rs.length := by
  induction h with
  | nil => rfl
  | cons _ _ ih => exact congrArg (· + 1) ih
theorem RowsAt.get (h : RowsAt K H as rs) : ∀ {i : Nat} {r : Row}, rs[i]? = some r → ∃ a, as[i]? = some a ∧ RowAt K H a r := by
  induction h with
  | nil => intro i r e; simp at e
  | cons h1 _ ih =>
    intro i r e
    cases i with
    | zero =>
      simp at e
      subst e
      exact ⟨_, rfl, h1⟩
    | succ i => exact ih (by simpa using e)
theorem RowsAt.get' (h : RowsAt K H as rs) : ∀ {i : Nat} {a : Addr}, as[i]? = some a → ∃ r, rs[i]? = some r ∧ RowAt K H a r := by
  induction h with
  | nil => intro i r e; simp at e
  | cons h1 _ ih =>
    intro i r e
    cases i with
    | zero =>
      simp at e
      subst e
      exact ⟨_, rfl, h1⟩
    | succ i => exact ih (by simpa using e)
theorem RowsAt.snoc (h : RowsAt K H as rs) (h1 : RowAt K H a r) : RowsAt K H (as ++ [a]) (rs ++ [r]) := by
  induction h with
  | nil => exact .cons h1 .nil
  | cons h2 _ ih => exact .cons h2 ih
theorem RowsAt.imp (h : RowsAt K H as rs) (f : ∀ a r, RowAt K H a r → RowAt K H1 a r) : RowsAt K H1 as rs := by
  induction h with
  | nil => exact .nil
  | cons h2 _ ih => exact .cons (f _ _ h2) ih
theorem RowsAt.same (h : RowsAt K H as rs) (s : Same H H1) : RowsAt K H1 as rs := h.imp fun _ _ q => same_seqT s q
theorem seqT_lst {p : Addr} {xs ys : List V} (h : SqT K H a xs) (hp : H p = some (.lst ys)) (b : But p H H1) : SqT K H1 a xs := by
  rcases h with h | h
  · have n : a ≠ p := by
      rcases h with h | ⟨o, h⟩
      · exact ne_of h hp (by intro z; cases z)
      · exact ne_of h hp (by intro z; cases z)
    exact .inl (b.rd n h)
  · exact .inr h
theorem seqT_go {p c : Addr} {n : Nat} {xs : List V} (h : SqT K H a xs) (hp : PenAt H p c n) (b : But p H H1) : SqT K H1 a xs := by
  obtain ⟨_, _, e, _⟩ := hp
  exact seqT_lst h e b
theorem RowsAt.lst {p : Addr} {ys : List V} (h : RowsAt K H as rs) (hp : H p = some (.lst ys)) (b : But p H H1) : RowsAt K H1 as rs := h.imp fun _ _ q => seqT_lst q hp b
theorem RowsAt.go {p c : Addr} {n : Nat} (h : RowsAt K H as rs) (hp : PenAt H p c n) (b : But p H H1) : RowsAt K H1 as rs := by
  obtain ⟨_, _, e, _⟩ := hp
  exact h.lst e b
theorem LogAt.go {p c : Addr} {n : Nat} (h : LogAt K H t rs) (hp : PenAt H p c n) (b : But p H H1) : LogAt K H1 t rs := by
  obtain ⟨as, h1, h2⟩ := h
  obtain ⟨_, _, e, _⟩ := id hp
  exact ⟨as, seqT_lst h1 e b, h2.go hp b⟩
theorem RowsAt.take (h : RowsAt K H as rs) (n : Nat) : RowsAt K H (as.take n) (rs.take n) := by
  induction h generalizing n with
  | nil => simp; exact .nil
  | cons h2 _ ih =>
    cases n with
    | zero => exact .nil
    | succ n => exact .cons h2 (ih n)
theorem RowsAt.drop (h : RowsAt K H as rs) (n : Nat) : RowsAt K H (as.drop n) (rs.drop n) := by
  induction h generalizing n with
  | nil => simp; exact .nil
  | cons h2 h3 ih =>
    cases n with
    | zero => exact .cons h2 h3
    | succ n => exact ih n
theorem LogAt.same (h : LogAt K H t rs) (s : Same H H1) : LogAt K H1 t rs := by
  obtain ⟨as, h1, h2⟩ := h
  exact ⟨as, same_seqT s h1, h2.same s⟩
theorem RowAt.dp (h : RowAt K H a r) : Dp K H (.ref a) r.d := .tup h (.cons (.int _) (.cons (.str _) (.cons r.w.dp .nil)))
theorem RowsAt.dp (h : RowsAt K H as rs) : DpAll K H (as.map V.ref) (rs.map Row.d) := by
  induction h with
  | nil => exact .nil
  | cons h2 _ ih => exact .cons h2.dp ih
theorem LogAt.dp (h : LogAt K H t rs) : Dp K H (.ref t) (.tuple (rs.map Row.d)) := by
  obtain ⟨as, h1, h2⟩ := h
  exact .tup h1 h2.dp
theorem log_rep (h : ∀ r ∈ rs, r.Ok) (l : rs.length ≤ 41) : RepOk (.tuple (rs.map Row.d)) 2 1148 := by
  refine (RepOk.tuple (k := 1) (n := 27) fun d hd => ?_).mono (Nat.le_refl _) ?_
  · obtain ⟨r, hr, rfl⟩ := List.mem_map.mp hd
    exact (h r hr).rep
  · rw [List.length_map]
    omega
end
theorem ints_rep {ns : List Int} {k : Nat} (h : ∀ n ∈ ns, n.natAbs < 2 ^ 398) (l : ns.length ≤ k) : RepOk (.list (ns.map PyData.int)) 1 k := by
  refine (RepOk.list (k := 0) (n := 0) fun d hd => ?_).mono (Nat.le_refl _) ?_
  · obtain ⟨r, hr, rfl⟩ := List.mem_map.mp hd
    exact RepOk.int (h r hr)
  · rw [List.length_map]
    omega
theorem cut_take (xs : List V) (i : Nat) (h : i ≤ xs.length) : cutV xs none (some (i : Int)) = xs.take i := by
  unfold cutV
  rw [HT.sIx_none, HT.sIx_nat, List.drop_zero, Nat.min_eq_left h, Nat.sub_zero]
theorem cut_drop (xs : List V) (i : Nat) : cutV xs (some (i : Int)) none = xs.drop i := by
  unfold cutV
  rw [HT.sIx_none, HT.sIx_nat]
  by_cases h : i ≤ xs.length
  · rw [Nat.min_eq_left h, List.take_of_length_le (by rw [List.length_drop]; exact Nat.le_refl _)]
  · rw [Nat.min_eq_right (by omega), List.drop_length, List.drop_eq_nil_of_le (by omega)]
    simp
theorem cut_not (xs : List V) (i : Nat) (h : i < xs.length) : ¬(HT.sIx xs.length 0 none = 0 ∧ HT.sIx xs.length xs.length (some (i : Int)) = xs.length) := fun z => by
  rw [HT.sIx_nat] at z
  omega
/-! ### the rules that name the written part, with it said: they stand within comprehensions, too -/
section
variable (K : PySem.W.Frag) {X : Cx}
theorem kx_seq (h : X.K = K := by rfl) : IxR X (rIx K) := by
  subst h
  exact ix_seq
theorem kx_list (h : X.K = K := by rfl) : IxR X (rIxL K) := by
  subst h
  exact ix_list
theorem kx_tup (h : X.K = K := by rfl) : IxR X (rIxT K) := by
  subst h
  exact ix_tup
theorem k_slL (h : X.K = K := by rfl) : SlR X (rSlL K) := by
  subst h
  exact sl_list
theorem k_slT (h : X.K = K := by rfl) : SlR X (rSlT K) := by
  subst h
  exact sl_tup
theorem k_slA (h : X.K = K := by rfl) : SlR X (rSlA K) := by
  subst h
  exact sl_tupA
theorem k_in (h : X.K = K := by rfl) : OpR X (compareOp .In) (rIn K false) := by
  subst h
  exact op_in_seq
theorem k_notin (h : X.K = K := by rfl) : OpR X (compareOp .NotIn) (rIn K true) := by
  subst h
  exact op_notIn_seq
def rLen (K : PySem.W.Frag) : List V → Hp → VK → Prop := fun xs H Q => ∃ p ys, xs = [.ref p] ∧ (SqL K H p ys ∨ SqT K H p ys) ∧ Q (.int ys.length) H
theorem k_len (h : X.K = K := by rfl) : CallR X (.builtin "len") (rLen K) := by
  subst h
  exact call_len_seq
theorem k_isi (h : X.K = K := by rfl) : CallR X (.builtin "isinstance") (rIsi K) := by
  subst h
  exact call_isi
theorem k_eqD (hu : X.A.units + 64 < cLine) (h : X.K = K := by rfl) : OpR X (compareOp .Eq) (rEqD K) := by
  subst h
  exact op_eqD hu
theorem k_neD (hu : X.A.units + 64 < cLine) (h : X.K = K := by rfl) : OpR X (compareOp .NotEq) (rNeD K) := by
  subst h
  exact op_neD hu
theorem k_repr (hG : X.A.guards = some []) (hu : X.A.units + 64 < cLine) (h : X.K = K := by rfl) : CallR X (.builtin "repr") (rRepr2 K) := by
  subst h
  exact call_reprD hG hu
def rTupOf (K : PySem.W.Frag) : List V → Hp → VK → Prop := fun xs H Q => ∃ p ys, xs = [.ref p] ∧ ((SqL K H p ys ∧ ∀ l, H l = none → Q (.ref l) (upd H l (.tup ys))) ∨ (SqT K H p ys ∧ Q (.ref p) H))
theorem k_tupOf (h : X.K = K := by rfl) : CallR X (.type "tuple") (rTupOf K) := by
  subst h
  exact call_tuple_of
def rListOf (K : PySem.W.Frag) : List V → Hp → VK → Prop := fun xs H Q => ∃ p ys, xs = [.ref p] ∧ (SqL K H p ys ∨ SqT K H p ys) ∧ ∀ l, H l = none → Q (.ref l) (upd H l (.lst ys))
theorem k_listOf (h : X.K = K := by rfl) : CallR X (.type "list") (rListOf K) := by
  subst h
  exact call_list_of
theorem k_isiT (h : X.K = K := by rfl) : CallR X (.builtin "isinstance") (rIsiT K) := by
  subst h
  exact call_isiT
theorem k_all (hc : X.calm = true) (h : X.K = K := by rfl) : CallR X (.builtin "all") (rAll K) := by
  subst h
  exact cr_all hc
theorem k_any (hc : X.calm = true) (h : X.K = K := by rfl) : CallR X (.builtin "any") (rAny K) := by
  subst h
  exact cr_any hc
theorem k_sorted (h : X.K = K := by rfl) : CallR X (.builtin "sorted") (rSortedI K) := by
  subst h
  exact cr_sortedI
theorem k_catT (h : X.K = K := by rfl) : OpR X (binaryOp .Add) (rCatT K) := by
  subst h
  exact op_catT
theorem k_pgT {es : List Expr} {k : Nat} {t : TGs} {n : Nat} {pos : Pos} (hc : X.calm = true) (h : PGs X es t) (hn : (assignEach es X.env).length = n := by rfl) (hs : (assignEach es X.env).findIdx? (fun p => p.1) = none := by rfl) (hK : X.K = K := by rfl) : PG X (.Tuple es k pos) (gTup K n t) := by
  subst hK
  exact pg_tup hc h hn hs
theorem k_piL {tg l : Expr} {tl : TE} (hl : PE X l tl) (h : X.K = K := by rfl) : PI X tg l (iList K tl) := by
  subst h
  exact pi_list hl
theorem k_piT {tg l : Expr} {tl : TE} (hl : PE X l tl) (h : X.K = K := by rfl) : PI X tg l (iTup K tl) := by
  subst h
  exact pi_tup hl
end
/-! ### lists and tuples alike -/
/-- a list or a tuple is read -/
def SqE (K : PySem.W.Frag) (H : Hp) (a : Addr) (xs : List V) : Prop := SqL K H a xs ∨ SqT K H a xs
def gEither (K : PySem.W.Frag) (n : Nat) (t : TGs) : TG := fun v σ H Q => ∃ a xs, v = .ref a ∧ SqE K H a xs ∧ xs.length = n ∧ t xs σ H Q
/-- x[i], x a list or a tuple -/
def rIxE (K : PySem.W.Frag) : R2 := fun x y H Q => ∃ p xs i v, x = .ref p ∧ y = .int i ∧ SqE K H p xs ∧ atI xs i = some v ∧ Q v H
theorem kx_E (K : PySem.W.Frag) {X : Cx} (hK : X.K = K := by rfl) : IxR X (rIxE K) := by
  subst hK
  rintro value slice pins s σ H x y v u Q I rx ry ⟨p, xs, i, z, e1, e2, hq | hq, e3, q⟩ hs
  · exact ix_list value slice pins s σ H x y v u Q I rx ry ⟨p, xs, i, z, e1, e2, hq, e3, q⟩ hs
  · exact ix_tup value slice pins s σ H x y v u Q I rx ry ⟨p, xs, i, z, e1, e2, hq, e3, q⟩ hs
/-- for x in v, v a name of a list or of a tuple -/
def iEither (K : PySem.W.Frag) (i : Nat) : TI := fun σ H R => ∃ a, σ[i]? = some (some (V.ref a)) ∧ (((∃ xs, SqL K H a xs) ∧ R (Itl K a) H) ∨ ((∃ xs, SqT K H a xs) ∧ R (Itt K a) H))
theorem k_piV (K : PySem.W.Frag) {X : Cx} {tg l : Expr} {i : Nat} (hl : PE X l (tVar i)) (hK : X.K = K := by rfl) : PI X tg l (iEither K i) := by
  subst hK
  constructor
  rintro pins s σ H R I ⟨a, e, ⟨hq, q⟩ | ⟨hq, q⟩⟩
  · exact (pi_list hl).run pins s σ H R I ⟨_, e, a, rfl, hq, q⟩
  · exact (pi_tup hl).run pins s σ H R I ⟨_, e, a, rfl, hq, q⟩
section
variable {X : Cx} {K : PySem.W.Frag} {H H1 : Hp} {a p : Addr} {xs : List V}
theorem SqE.same (h : SqE K H a xs) (s : Same H H1) : SqE K H1 a xs := h.imp (same_seqL s) (same_seqT s)
theorem k_pgE (K : PySem.W.Frag) {es : List Expr} {k : Nat} {t : TGs} {n : Nat} {pos : Pos} (hc : X.calm = true) (h : PGs X es t) (hn : (assignEach es X.env).length = n := by rfl) (hs : (assignEach es X.env).findIdx? (fun p => p.1) = none := by rfl)
    (hK : X.K = K := by rfl) : PG X (.Tuple es k pos) (gEither K n t) := by
  subst hK
  constructor
  rintro pins s σ H v u Q I r ⟨a, xs, e1, hq | hq, hl, hw⟩
  · exact (pg_unl hc h hn hs).run pins s σ H v u Q I r ⟨a, xs, e1, hq, hl, hw⟩
  · exact (pg_tup hc h hn hs).run pins s σ H v u Q I r ⟨a, xs, e1, hq, hl, hw⟩
theorem seqT_ty (h : SqT K H a xs) : TyX K H (.ref a) (.type "tuple") := by
  rcases h with (h | ⟨o, h⟩) | ⟨o, its, n, e, c, _⟩
  · exact .base (.tup h)
  · exact .fTuple h
  · exact .kTuple e c
theorem seqL_ty (h : SqL K H a xs) : TyX K H (.ref a) (.type "list") := by
  rcases h with (h | ⟨o, h⟩) | ⟨o, its, n, e, c, _⟩
  · exact .base (.lst h)
  · exact .base (.frz h)
  · exact .kList e c
end
/-! ### defs with defaults -/
section
variable {P : Program} {w : World} {K : PySem.W.Frag} {mg : Str → Option Value} {base : Heap} {x qual : Str} {params : Arguments} {body : List Stmt} {scope : Scope} {dvs : List V} {f : Addr} {fd : FuncData} {ps : List Str}
theorem FunD_okN {N : List Str} {k : Nat} {sp : Sp} (F : FunD K x qual params body scope dvs [] f fd) (S : FnScope N ps scope) (len : ∀ vs H Q E, sp vs H Q E → vs.length = ps.length)
    (hb : ∀ (cdv : Value) (A : Around) (outer : List Env) (s : Shared) (H : Hp) (vs : List V) (Q : VK) (E : XK), Room k (A.deeper (envOfC qual scope s.heap.objs.size f cdv)) → sp vs H Q E →
      ∃ t, PSs (cxOf CX0 P w K mg base N qual scope f cdv A outer s H E).nox body t ∧ t { nx := fun _ H' => Q .non H', rt := Q } (start N vs) H) : FnOk P w K mg base CX0 (k + 1) f fd ps sp :=
  F.ok S len fun cdv A outer s H vs Q E hr h => by
    obtain ⟨t, h1, h2⟩ := hb cdv A outer s H vs Q E hr h
    exact ⟨t, h1.nox, h2⟩
theorem FunD_mk {oc : Value} {od an : Option Addr} {T : Addr} {kV doc pm cdv ct : Value} {osl : Array (Option Value)} {tc : Value} {td : Option Addr} {its : Array Value} {n : Nat} {tsl : Array (Option Value)}
    (l : K.lookup f = some ⟨oc, od, .func (PySem.W.fnOf x qual params body scope (.ref T) kV doc pm an cdv ct), osl⟩) (c : PySem.W.codeIn K cdv qual = true) (k : PySem.W.keepIn K (.ref f) = true)
    (lt : K.lookup T = some ⟨tc, td, .seq its n, tsl⟩) (v : Vals dvs its.toList) (hd : dvs ≠ []) : FunD K x qual params body scope dvs [] f (PySem.W.fnOf x qual params body scope (.ref T) kV doc pm an cdv ct) :=
  ⟨⟨oc, od, _, kV, doc, pm, an, cdv, ct, osl, rfl, l, c, .inr ⟨hd, T, _, its.toList, n, rfl, lt, by simp, v⟩, .inl rfl⟩, k⟩
/-- keywords, the defaults filling up what lacks -/
theorem FunD_kb (F : FunD K x qual params body scope dvs [] f fd) (hd : dvs ≠ []) (ks : List Str) (g : List Value → List Value → List Value → List Value) (gV : List V → List V → List V → List V)
    (rel : ∀ {vs ds zs : List V} {us its ws : List Value}, Vals vs us → Vals ds its → Vals zs ws → Vals (gV vs ds zs) (g us its ws))
    (h : ∀ (T : Addr) (kV doc pm : Value) (an : Option Addr) (cdv ct : Value) (us its ws : List Value), its.length = dvs.length → (g us its ws).length = ps.length →
      ∃ k, bindArgs (PySem.W.fnOf x qual params body scope (.ref T) kV doc pm an cdv ct) ⟨us, ks.zip ws⟩ = seqItems? (.ref T) >>= k ∧ k (some its.toArray) = pure (ps.zip (g us its ws))) :
    ∃ its : List Value, KBinds K fd ps ks (fun us ws => g us its ws) (fun vs zs => gV vs dvs zs) := by
  obtain ⟨oc, od, dV, kV, doc, pm, an, cdv, ct, osl, e, lk, hcd, hD, _⟩ := F.ex
  subst e
  rcases hD with ⟨e, _⟩ | ⟨_, T, o, its, m, rfl, lT, oT, rT⟩
  · exact absurd e hd
  · refine ⟨its, fun s us ws X hl => ?_, fun r1 r2 => rel r1 rT r2⟩
    obtain ⟨k, e1, e2⟩ := h T kV doc pm an cdv ct us its ws rT.length.symm hl
    refine BindsTo.of_looks fun M => ?_
    rw [e1]
    exact looks_items X lT oT (.of_pure e2)
end
end RO

namespace RO
open PySem PySem.Spec PyProof.Rows L2
def top (i : Nat) : Stmt := PySem.Challenge.pw_ringorders_k08_what_stands.main.body.getD i (.Pass ⟨0, 0, 0, 0⟩)
abbrev s_standing : Stmt := top 1
theorem sc_standing : FnScope ["log", "line", "minute", "none", "order", "when", "where", "what"] ["log", "line", "minute", "none"] (defScope s_standing) := ⟨rfl, rfl, rfl, by decide +kernel, rfl, by decide +kernel, by decide +kernel⟩
abbrev s_pen : Stmt := top 3
theorem sc_pen : FnScope ["_law_script"] ["_law_script"] (defScope s_pen) := ⟨rfl, rfl, rfl, by decide +kernel, rfl, by decide +kernel, by decide +kernel⟩
abbrev s_draw : Stmt := top 4
theorem sc_draw : FnScope ["_law_pen_here", "_law_many", "_law_found", "_law_at", "_law_cell", "_law_mixed"] ["_law_pen_here", "_law_many"] (defScope s_draw) := ⟨rfl, rfl, rfl, by decide +kernel, rfl, by decide +kernel, by decide +kernel⟩
abbrev s_pick : Stmt := top 5
theorem sc_pick : FnScope ["_law_pen_here", "_law_some"] ["_law_pen_here", "_law_some"] (defScope s_pick) := ⟨rfl, rfl, rfl, by decide +kernel, rfl, by decide +kernel, by decide +kernel⟩
abbrev s_word : Stmt := top 6
theorem sc_word : FnScope ["_law_pen_here", "_law_letters", "_law_some", "_law_k"] ["_law_pen_here"] (defScope s_word) := ⟨rfl, rfl, rfl, by decide +kernel, rfl, by decide +kernel, by decide +kernel⟩
abbrev s_log : Stmt := top 7
theorem sc_log : FnScope ["_law_pen_here", "_law_most", "_law_many", "_law_every", "_law_lines", "_law_words", "_law_orders", "_law_time", "_law_rows", "_law_k", "_law_wire", "_law_what"] ["_law_pen_here", "_law_most"] (defScope s_log) := ⟨rfl, rfl, rfl, by decide +kernel, rfl, by decide +kernel, by decide +kernel⟩
abbrev s_stands : Stmt := top 8
theorem sc_stands : FnScope ["_law_page", "_law_wire", "_law_time", "_law_found", "_law_row"] ["_law_page", "_law_wire", "_law_time"] (defScope s_stands) := ⟨rfl, rfl, rfl, by decide +kernel, rfl, by decide +kernel, by decide +kernel⟩
abbrev s_minutes : Stmt := top 9
theorem sc_minutes : FnScope ["_law_pen_here", "_law_page", "_law_found", "_law_k", "_law_time"] ["_law_pen_here", "_law_page"] (defScope s_minutes) := ⟨rfl, rfl, rfl, by decide +kernel, rfl, by decide +kernel, by decide +kernel⟩
abbrev s_right : Stmt := top 10
theorem sc_right : FnScope ["_law_page", "_law_wire", "_law_time", "_law_thing", "_law_due", "_law_handed"] ["_law_page", "_law_wire", "_law_time", "_law_thing"] (defScope s_right) := ⟨rfl, rfl, rfl, by decide +kernel, rfl, by decide +kernel, by decide +kernel⟩
abbrev s_law : Stmt := top 11
theorem sc_law : FnScope ["_law_script", "_law_pen_here", "_law_turn", "_law_page", "_law_kept", "_law_thing", "_law_time", "_law_wire"] ["_law_script"] (defScope s_law) := ⟨rfl, rfl, rfl, by decide +kernel, rfl, by decide +kernel, by decide +kernel⟩
structure Txt (w : World) (K : PySem.W.Frag) (mg : Str → Option Value) where
  a_standing : Addr
  d_standing : FuncData
  F_standing : FunD K "standing" "standing" (defArgs s_standing) (defBody s_standing) (defScope s_standing) [V.non] [] a_standing d_standing
  ds3_standing : List Value
  v3_standing : Vals ([V.non] : List V) ds3_standing
  b3_standing : Binds K d_standing ["log", "line", "minute", "none"] ds3_standing
  ds4_standing : List Value
  v4_standing : Vals ([] : List V) ds4_standing
  b4_standing : Binds K d_standing ["log", "line", "minute", "none"] ds4_standing
  g_standing : mg "standing" = some (.ref a_standing)
  a_pen : Addr
  d_pen : FuncData
  F_pen : Fun K "_law_pen" "_law_pen" s_pen a_pen d_pen
  b_pen : Binds K d_pen ["_law_script"] []
  g_pen : mg "_law_pen" = some (.ref a_pen)
  a_draw : Addr
  d_draw : FuncData
  F_draw : Fun K "_law_draw" "_law_draw" s_draw a_draw d_draw
  b_draw : Binds K d_draw ["_law_pen_here", "_law_many"] []
  g_draw : mg "_law_draw" = some (.ref a_draw)
  a_pick : Addr
  d_pick : FuncData
  F_pick : Fun K "_law_pick" "_law_pick" s_pick a_pick d_pick
  b_pick : Binds K d_pick ["_law_pen_here", "_law_some"] []
  g_pick : mg "_law_pick" = some (.ref a_pick)
  a_word : Addr
  d_word : FuncData
  F_word : Fun K "_law_word" "_law_word" s_word a_word d_word
  b_word : Binds K d_word ["_law_pen_here"] []
  g_word : mg "_law_word" = some (.ref a_word)
  a_log : Addr
  d_log : FuncData
  F_log : Fun K "_law_log" "_law_log" s_log a_log d_log
  b_log : Binds K d_log ["_law_pen_here", "_law_most"] []
  g_log : mg "_law_log" = some (.ref a_log)
  a_stands : Addr
  d_stands : FuncData
  F_stands : Fun K "_law_stands" "_law_stands" s_stands a_stands d_stands
  b_stands : Binds K d_stands ["_law_page", "_law_wire", "_law_time"] []
  g_stands : mg "_law_stands" = some (.ref a_stands)
  a_minutes : Addr
  d_minutes : FuncData
  F_minutes : Fun K "_law_minutes" "_law_minutes" s_minutes a_minutes d_minutes
  b_minutes : Binds K d_minutes ["_law_pen_here", "_law_page"] []
  g_minutes : mg "_law_minutes" = some (.ref a_minutes)
  a_right : Addr
  d_right : FuncData
  F_right : Fun K "_law_right" "_law_right" s_right a_right d_right
  b_right : Binds K d_right ["_law_page", "_law_wire", "_law_time", "_law_thing"] []
  g_right : mg "_law_right" = some (.ref a_right)
  a_law : Addr
  d_law : FuncData
  F_law : Fun K "law" "law" s_law a_law d_law
  b_law : Binds K d_law ["_law_script"] []
  g_law : mg "law" = some (.ref a_law)
  it0_standing : List Value
  kb0_standing : KBinds K d_standing ["log", "line", "minute", "none"] ["none", "minute", "log", "line"] (fun us ws => match us, (it0_standing : List _), ws with | [], [_], [x0, x1, x2, x3] => [x2, x3, x1, x0] | _, _, _ => []) (fun us ws => match us, ([V.non] : List _), ws with | [], [_], [x0, x1, x2, x3] => [x2, x3, x1, x0] | _, _, _ => [])
  z_abs : mg "abs" = none
  z_int : mg "int" = none
  z_len : mg "len" = none
  z_min : mg "min" = none
  z_range : mg "range" = none
  z_repr : mg "repr" = none
  z_tuple : mg "tuple" = none
/-! a step of a reading whose answer is fixed: a name, a number's operation -/
local macro_rules | `(tactic| walk_at "rd") => `(tactic| (first
  | refine ⟨_, rfl, ?_⟩
  | refine ⟨_, _, rfl, rfl, ?_⟩
  | (refine And.intro ?rdc ?_; (case rdc => first | decide | omega | exact ⟨by omega, by omega⟩ | exact ⟨by decide, by decide, by omega⟩ | exact .inl ⟨by omega, by omega⟩ | exact .inr ⟨by omega, by omega⟩))))
section
variable {P : Program} {w : World} {K : PySem.W.Frag} {mg : Str → Option Value} {base : Heap}
/-! ### the pen -/
def spDraw (K : PySem.W.Frag) : Sp := fun vs H Q _ => ∃ (p c : Addr) (n : Nat) (m : Int), vs = [.ref p, .int m] ∧ PenAt H p c n ∧ Cells K H p c ∧ n ≤ 1000000 ∧ 1 ≤ m ∧ m < 1073741824 ∧
  ∀ H' r, Go K p c H (n + 1) H' → 0 ≤ r → r < m → Q (.int r) H'
theorem ok_draw (T : Txt w K mg) : FnOk P w K mg base CX0 1 T.a_draw T.d_draw ["_law_pen_here", "_law_many"] (spDraw K) := by
  refine T.F_draw.ok sc_draw (fun vs H Q E h => ?_) (fun cdv A outer s H vs Q E hr h => ?_)
  · obtain ⟨p, c, n, m, rfl, _⟩ := h
    rfl
  · obtain ⟨p, c, n, m, rfl, hp, hc, hn, hm1, hm2, q⟩ := h
    obtain ⟨at_, cy, e, h0, h1, h2⟩ := id hp
    obtain ⟨ne, ns, hS, hl⟩ := id hc
    refine ⟨_, (pss_cons (ps_if (pt_cmpR op_gt (pe_ix (kx_list K) (pv 0) pe_int (fun _ _ => rfl)) pe_int (nomark _)) (pss_cons (ps_set (i := 2) sc_draw.nd rfl (by first | exact Or.inl rfl | exact Or.inr rfl) (pe_op op_modN (pe_ix (kx_list K) (pv 0) pe_int (fun _ _ => rfl)) (pv 1)))
  (pss_cons (ps_asg (pe_op op_fdivN (pe_ix (kx_list K) (pv 0) pe_int (fun _ _ => rfl)) (pv 1)) (pg_sub (pv 0) pe_int set_list))
  (pss_one (ps_ret (pv 2))))) pss_nil)
  (pss_cons (ps_set (i := 3) sc_draw.nd rfl (by first | exact Or.inl rfl | exact Or.inr rfl) (pe_ix (kx_list K) (pv 0) pe_int (fun _ _ => rfl)))
  (pss_cons (ps_asg (pe_op op_add (pv 3) pe_int) (pg_sub (pv 0) pe_int set_list))
  (pss_cons (ps_set (i := 4) sc_draw.nd rfl (by first | exact Or.inl rfl | exact Or.inr rfl) (pe_op op_add (pe_op op_mul pe_int (pv 3)) pe_int))
  (C8.pss_cut (ps_if (pt_cmpR op_gt (pe_callB (k_len K) (by rfl) T.z_len (by decide +kernel) (pa_cons (pe_ix (kx_list K) (pv 0) pe_int (fun _ _ => rfl)) pa_nil)) pe_int (nomark _)) (pss_one (ps_set (i := 4) sc_draw.nd rfl (by first | exact Or.inl rfl | exact Or.inr rfl) (pe_ix (kx_list K) (pe_ix (kx_list K) (pv 0) pe_int (fun _ _ => rfl)) (pe_op op_modN (pv 3) (pe_callB (k_len K) (by rfl) T.z_len (by decide +kernel) (pa_cons (pe_ix (kx_list K) (pv 0) pe_int (fun _ _ => rfl)) pa_nil))) (fun _ _ => rfl)))) pss_nil)
  (C8.pss_cut (ps_if (PW.pt (pw_and (pt_cmpR op_lt (pv 3) (pe_callB (k_len K) (by rfl) T.z_len (by decide +kernel) (pa_cons (pe_ix (kx_list K) (pv 0) pe_int (fun _ _ => rfl)) pa_nil)) (nomark _)) (pw_and1 (pt_cmpR op_ge (pe_callB call_abs (by rfl) T.z_abs (by decide +kernel) (pa_cons (pv 4) pa_nil)) (pe_op op_pow pe_int pe_int) (nomark _))))) (pss_cons (ps_asg (pe_op op_fdivN (pe_callB call_abs (by rfl) T.z_abs (by decide +kernel) (pa_cons (pv 4) pa_nil)) (pv 1)) (pg_sub (pv 0) pe_int set_list))
  (pss_one (ps_ret (pe_op op_modN (pe_callB call_abs (by rfl) T.z_abs (by decide +kernel) (pa_cons (pv 4) pa_nil)) (pv 1))))) pss_nil)
  (pss_cons (ps_set (i := 5) sc_draw.nd rfl (by first | exact Or.inl rfl | exact Or.inr rfl) (pe_op op_modN (pe_op op_pow (pe_op op_add (pe_op op_add (pe_op op_add (pe_op op_modN (pv 4) pe_int) (pe_op op_mul (pe_op op_mul pe_int (pv 3)) (pv 3))) (pe_op op_mul pe_int (pv 3))) pe_int) pe_int) pe_int))
  (pss_cons (ps_set (i := 5) sc_draw.nd rfl (by first | exact Or.inl rfl | exact Or.inr rfl) (pe_op op_modN (pe_op op_mul (pe_op op_pow (pe_op op_add (pe_op op_add (pv 5) (pe_op op_mul pe_int (pv 3))) pe_int) pe_int) (pe_op op_add (pe_op op_modN (pv 5) pe_int) pe_int)) pe_int))
  (pss_one (ps_ret (pe_op op_modN (pe_op op_fdivN (pv 5) pe_int) (pv 1)))))))))))), ?_⟩
    refine ⟨_, rfl, p, _, 2, _, rfl, rfl, SqL.of e, rfl, _, _, rfl, rfl, _, rfl, ite2 (fun t => ?_) (fun t => ?_)⟩
    · -- a rest is left
      have t' : 0 < cy := of_decide_eq_true t
      refine ⟨_, rfl, p, _, 2, _, rfl, rfl, SqL.of e, rfl, _, rfl, _, _, rfl, rfl, (by omega), ?_⟩
      refine ⟨_, rfl, p, _, 2, _, rfl, rfl, SqL.of e, rfl, _, rfl, _, _, rfl, rfl, ⟨by omega, by omega⟩, ?_⟩
      refine ⟨_, rfl, p, _, 2, 2, rfl, rfl, e, rfl, ?_⟩
      refine ⟨_, rfl, q _ _ (Go.make hc But.put upd_same h0 (by omega) (fdiv_ge h2 (by omega))) (fmod_ge (by omega)) (fmod_lt (by omega))⟩
    · refine ⟨_, rfl, p, _, 1, _, rfl, rfl, SqL.of e, rfl, ?_⟩
      refine ⟨_, rfl, _, _, rfl, rfl, _, rfl, p, _, 1, 1, rfl, rfl, e, rfl, ?_⟩
      -- the place goes on
      have e1 : upd H p (.lst ([V.ref c, V.int at_, V.int cy].set 1 (V.int (at_ + 1)))) p = some (.lst [V.ref c, V.int (at_ + 1), V.int cy]) := upd_same
      have b1 : But p H (upd H p (.lst ([V.ref c, V.int at_, V.int cy].set 1 (V.int (at_ + 1))))) := But.put
      generalize upd H p (.lst ([V.ref c, V.int at_, V.int cy].set 1 (V.int (at_ + 1)))) = H1 at e1 b1 ⊢
      have hS1 := b1.seqL ne hS
      refine ⟨_, rfl, _, _, rfl, rfl, .inl ⟨by omega, by omega⟩, _, _, rfl, rfl, ?_⟩
      refine ⟨fun σ' H' => ∃ cell : Int, σ' = [some (.ref p), some (.int m), none, some (.int at_), some (.int cell), none] ∧ H' = H1, ?_, ?_⟩
      · refine ⟨_, rfl, p, _, 0, _, rfl, rfl, SqL.of e1, rfl, c, _, rfl, .inl hS1, _, _, rfl, rfl, _, rfl, ite2 (fun t2 => ?_) (fun t2 => ⟨_, rfl, rfl⟩)⟩
        have l0 : (0 : Int) < ((ns.map V.int).length : Int) := of_decide_eq_true t2
        obtain ⟨v, hv, ev⟩ := atI_fmod (xs := ns.map V.int) (i := at_) (by omega)
        obtain ⟨z, _, rfl⟩ := List.mem_map.mp hv
        exact ⟨_, rfl, p, _, 0, _, rfl, rfl, SqL.of e1, rfl, _, rfl, _, rfl, p, _, 0, _, rfl, rfl, SqL.of e1, rfl, c, _, rfl, .inl hS1, _, _, rfl, rfl, (by omega), c, _, _, _, rfl, rfl, hS1, ev, z, rfl, rfl⟩
      · rintro σ' H' ⟨cell, rfl, rfl⟩
        refine ⟨fun σ2 H2 => σ2 = [some (.ref p), some (.int m), none, some (.int at_), some (.int cell), none] ∧ H2 = H', ?_, ?_⟩
        · refine ⟨_, rfl, _, rfl, p, _, 0, _, rfl, rfl, SqL.of e1, rfl, c, _, rfl, .inl hS1, _, _, rfl, rfl, _, rfl, ite2 (fun t3 => ?_) (fun t3 => iteF ⟨rfl, rfl⟩)⟩
          refine ⟨_, rfl, _, rfl, _, _, rfl, rfl, ⟨by decide, by decide, by decide⟩, _, _, rfl, rfl, _, rfl, ite2 (fun t4 => ?_) (fun t4 => ⟨rfl, rfl⟩)⟩
          have habs : (0 : Int) ≤ if cell < 0 then -cell else cell := by
            split <;> omega
          refine ⟨_, rfl, _, rfl, _, rfl, _, _, rfl, rfl, ⟨by omega, by omega⟩, _, rfl, p, _, 2, 2, rfl, rfl, e1, rfl, ?_⟩
          exact ⟨_, rfl, _, rfl, _, rfl, _, _, rfl, rfl, (by omega), q _ _ (Go.make hc (b1.trans But.put) upd_same (by omega) (by omega) (fdiv_ge habs (by omega))) (fmod_ge (by omega)) (fmod_lt (by omega))⟩
        · rintro σ2 H2 ⟨rfl, rfl⟩
          have a1 := fmod_ge (a := cell) (b := 2147483549) (by decide)
          have a2 := fmod_lt (a := cell) (b := 2147483549) (by decide)
          have a3 : 0 ≤ 50023 * at_ * at_ := Int.mul_nonneg (by omega) h0
          have a4 : 50023 * at_ * at_ ≤ 50023000000 * 1000000 := Int.mul_le_mul (by omega) (by omega) h0 (by decide)
          have z1 := fmod_ge (a := (cell.fmod 2147483549 + 50023 * at_ * at_ + 40063 * at_ + 11) ^ Int.toNat 3) (b := 2147483629) (by decide)
          have z2 := fmod_lt (a := (cell.fmod 2147483549 + 50023 * at_ * at_ + 40063 * at_ + 11) ^ Int.toNat 3) (b := 2147483629) (by decide)
          have z3 := fmod_ge (a := ((cell.fmod 2147483549 + 50023 * at_ * at_ + 40063 * at_ + 11) ^ Int.toNat 3).fmod 2147483629) (b := 60013) (by decide)
          have z4 := fmod_lt (a := ((cell.fmod 2147483549 + 50023 * at_ * at_ + 40063 * at_ + 11) ^ Int.toNat 3).fmod 2147483629) (b := 60013) (by decide)
          repeat (walk_at "rd")
          exact q _ _ (Go.make hc b1 e1 (by omega) (by omega) h2) (fmod_ge (by omega)) (fmod_lt (by omega))
/-! ### one of some -/
def spPick (K : PySem.W.Frag) : Sp := fun vs H Q _ => ∃ (p c q : Addr) (n : Nat) (xs : List V), vs = [.ref p, .ref q] ∧ PenAt H p c n ∧ Cells K H p c ∧ n ≤ 1000000 ∧ (SqL K H q xs ∧ q ≠ p ∨ SqT K H q xs) ∧ xs ≠ [] ∧ xs.length ≤ 1000000 ∧
  ∀ H' v, Go K p c H (n + 1) H' → v ∈ xs → Q v H'
theorem ok_pick (T : Txt w K mg) : FnOk P w K mg base CX0 2 T.a_pick T.d_pick ["_law_pen_here", "_law_some"] (spPick K) := by
  have G_draw := ok_draw (P := P) (base := base) T
  refine T.F_pick.ok sc_pick (fun vs H Q E h => ?_) (fun cdv A outer s H vs Q E hr h => ?_)
  · obtain ⟨p, c, q, n, xs, rfl, _⟩ := h
    rfl
  · obtain ⟨p, c, q, n, xs, rfl, hp, hc, hn, hq, hx, hl, k⟩ := h
    have hr_draw := hr
    have l0 : 0 < xs.length := List.length_pos_iff.mpr hx
    refine ⟨_, (pss_one (ps_ret (pe_ix (kx_seq K) (pv 1) (pe_call G_draw hr_draw (by rfl) T.g_draw T.F_draw.kp T.b_draw .nil pass0 (pa_cons (pv 0) (pa_cons (pe_callB (k_len K) (by rfl) T.z_len (by decide +kernel) (pa_cons (pv 1) pa_nil)) pa_nil))) (fun _ _ => rfl)))), ?_⟩
    refine ⟨_, rfl, _, rfl, _, rfl, q, xs, rfl, hq.imp And.left id, p, c, n, _, rfl, hp, hc, hn, by omega, by omega, fun H' r g r0 r1 => ?_⟩
    obtain ⟨v, hv, ev⟩ := atI_lt r0 r1
    rcases hq with ⟨hq, nq⟩ | hq
    · exact .inl ⟨q, xs, r, v, rfl, rfl, g.but.seqL nq hq, ev, k _ _ g hv⟩
    · exact .inr (.inl ⟨q, xs, r, v, rfl, rfl, seqT_go hq hp g.but, ev, k _ _ g hv⟩)

/-! ### a word -/
theorem letter_ok {c : Nat} (h : c ∈ ("abcdefghijklmnopqrstuvwxyz" : Str).cps.toList) : TOk 1 ⟨#[c]⟩ := by
  refine ⟨Nat.le_refl _, fun d hd => ?_⟩
  have e : d = c := by simpa using hd
  subst e
  exact (show ∀ c ∈ ("abcdefghijklmnopqrstuvwxyz" : Str).cps.toList, c < 128 by decide +kernel) d h
def spWord (K : PySem.W.Frag) : Sp := fun vs H Q _ => ∃ (p c : Addr) (n : Nat), vs = [.ref p] ∧ PenAt H p c n ∧ Cells K H p c ∧ n ≤ 900000 ∧
  ∀ H' t, Go K p c H (n + 10) H' → TOk 8 t → Q (.str t) H'
theorem ok_word (T : Txt w K mg) : FnOk P w K mg base CX0 3 T.a_word T.d_word ["_law_pen_here"] (spWord K) := by
  have G_draw := ok_draw (P := P) (base := base) T
  have G_pick := ok_pick (P := P) (base := base) T
  refine T.F_word.ok sc_word (fun vs H Q E h => ?_) (fun cdv A outer s H vs Q E hr h => ?_)
  · obtain ⟨p, c, n, rfl, _⟩ := h
    rfl
  · obtain ⟨p, c, n, rfl, hp, hc, hn, k⟩ := h
    have hr_pick := hr
    have hr_draw := hr.mono (show 1 ≤ 2 by decide)
    refine ⟨_, (pss_cons (ps_set (i := 1) sc_word.nd rfl (by first | exact Or.inl rfl | exact Or.inr rfl) pe_str)
  (pss_cons (ps_set (i := 2) sc_word.nd rfl (by first | exact Or.inl rfl | exact Or.inr rfl) (pe_join pe_str (pe_lc (own := [("_law_k", 3)]) rfl sc_word.nd (pi_range1 (by rfl) T.z_range (pa_cons (pe_op op_add pe_int (pe_call G_draw hr_draw (by rfl) T.g_draw T.F_draw.kp T.b_draw .nil pass0 (pa_cons (pv 0) (pa_cons pe_int pa_nil)))) pa_nil)) (blkOk_by (own := [("_law_k", 3)]) (N := ["_law_pen_here", "_law_letters", "_law_some", "_law_k"]) (sc := defScope s_word) (by decide +kernel)) (fun _ _ _ _ _ => (pg_name (i := 3) sc_word.nd rfl (by first | exact Or.inl rfl | exact Or.inr rfl))) (fun _ _ _ _ _ => pts_nil) (fun _ _ _ _ _ => (pe_ix ix_str (pv 1) (pe_call G_draw hr_draw (by rfl) T.g_draw T.F_draw.kp T.b_draw .nil pass0 (pa_cons (pv 0) (pa_cons pe_int pa_nil))) (fun _ _ => rfl))))))
  (pss_one (ps_ret (pe_call G_pick hr_pick (by rfl) T.g_pick T.F_pick.kp T.b_pick .nil pass0 (pa_cons (pv 0) (pa_cons (pe_lst (pa_cons pe_str (pa_cons pe_str (pa_cons pe_str (pa_cons pe_str (pa_cons (pv 2) (pa_cons (pv 2) (pa_cons (pe_slice sl_str (pv 2) po_none (po_some pe_int)) pa_nil)))))))) pa_nil))))))), ?_⟩
    refine ⟨⟨_, rfl⟩, ?_⟩
    refine ⟨_, rfl, p, c, n, _, rfl, hp, hc, by omega, by decide, by decide, fun H1 r g1 r0 r1 => ?_⟩
    refine ⟨_, _, rfl, rfl, _, rfl, by omega, by omega, fun D hD => ?_⟩
    have hD0 := g1.free hD
    have nD : D ≠ p := Ne.symm (g1.ne_new hD)
    refine lc_it walk_range (fun i H' => Go K p c H (n + 1 + i) H' ∧ ∃ ws : List Str, H' D = some (.lst (ws.map V.str)) ∧ ws.length = i ∧ ∀ x ∈ ws, TOk 1 x)
      ⟨g1.new hD, [], upd_same, rfl, fun x hx => nomatch hx⟩ (fun _ _ _ _ => trivial) ?_ ?_
    · rintro i x H2 H3 hi ⟨g2, ws, e2, l2, o2⟩ ⟨rfl, rfl⟩
      refine ⟨rfl, _, rfl, _, rfl, p, c, n + 1 + i, 26, rfl, g2.pen, g2.cel, by omega, by decide, by decide, fun H4 r4 g4 q0 q1 => ?_⟩
      have e4 := g4.but D _ nD e2
      obtain ⟨c4, hc4, ec4⟩ := atI_lt (xs := ("abcdefghijklmnopqrstuvwxyz" : Str).cps.toList) q0 (show r4 < ((26 : Nat) : Int) from q1)
      refine ⟨_, r4, c4, rfl, rfl, by decide +kernel, ec4, _, e4, ?_, ?_⟩
      · rw [List.length_map]
        exact small1000 (by omega)
      · refine ⟨((g2.trans g4).own hD0 nD hc).mono (by omega), ws ++ [⟨#[c4]⟩], ?_, by rw [List.length_append, l2]; rfl, fun x hx => ?_⟩
        · rw [upd_same, List.map_append]
          rfl
        · rcases List.mem_append.mp hx with hx | hx
          · exact o2 x hx
          · have : x = ⟨#[c4]⟩ := by simpa using hx
            subst this
            exact letter_ok hc4
    · rintro H2 ⟨g2, ws, e2, l2, o2⟩
      have j1 := join_ok o2
      have sum1 : (ws.map (·.length)).sum ≤ ws.length := by
        clear e2 l2 j1
        induction ws with
        | nil => exact Nat.le_refl _
        | cons x r ih =>
          have a := (o2 x (List.mem_cons_self ..)).1
          have b := ih fun y hy => o2 y (List.mem_cons_of_mem _ hy)
          simp only [List.map_cons, List.sum_cons, List.length_cons]
          omega
      have j2 : TOk 8 (Txt.join (Str.ofString "") ws) := by
        rw [TL.join_eq]
        exact j1.mono (by omega)
      refine ⟨_, D, ws, rfl, rfl, .inl (SqL.of e2), ?_, ?_⟩
      · have : (Str.ofString "").length = 0 := by decide +kernel
        rw [this]
        omega
      generalize Txt.join (Str.ofString "") ws = t1 at j2 ⊢
      refine ⟨_, rfl, _, rfl, _, rfl, _, rfl, 1, rfl, t1, rfl, Nat.le_trans j2.1 (by decide), (by show 7 ≤ sizeLine; decide), fun l hl => ?_⟩
      have g3 := g2.new hl (o := .lst [V.str (Str.ofString "port"), V.str (Str.ofString "stop"), V.str (Str.ofString "up"), V.str (Str.ofString "zzzzzzzz"), V.str t1, V.str t1, V.str (cutS t1 none (some 1))])
      refine ⟨p, c, l, _, _, rfl, g3.pen, g3.cel, by omega, .inl ⟨SqL.of upd_same, Ne.symm (g2.ne_new hl)⟩, by simp, (by show 7 ≤ 1000000; decide), fun H4 v g4 hv => ?_⟩
      have hv2 : ∃ t, v = V.str t ∧ TOk 8 t := by
        have z : v = V.str (Str.ofString "port") ∨ v = V.str (Str.ofString "stop") ∨ v = V.str (Str.ofString "up") ∨ v = V.str (Str.ofString "zzzzzzzz") ∨ v = V.str t1 ∨ v = V.str (cutS t1 none (some 1)) := by
          have z0 := hv
          simp only [List.mem_cons, List.not_mem_nil, or_false] at z0
          rcases z0 with z | z | z | z | z | z | z <;> simp [z]
        rcases z with z | z | z | z | z | z
        · exact ⟨_, z, by decide +kernel, by decide +kernel⟩
        · exact ⟨_, z, by decide +kernel, by decide +kernel⟩
        · exact ⟨_, z, by decide +kernel, by decide +kernel⟩
        · exact ⟨_, z, by decide +kernel, by decide +kernel⟩
        · exact ⟨_, z, j2⟩
        · exact ⟨_, z, cut_ok j2 _ _⟩
      obtain ⟨t2, rfl, o3⟩ := hv2
      exact k _ _ ((g3.trans g4).mono (by omega)) o3

/-! ### a log -/
def spLog (K : PySem.W.Frag) : Sp := fun vs H Q _ => ∃ (p c : Addr) (n : Nat) (m : Int), vs = [.ref p, .int m] ∧ PenAt H p c n ∧ Cells K H p c ∧ n ≤ 800000 ∧ 4 ≤ m ∧ m ≤ 40 ∧
  ∀ H' t rs, Go K p c H (n + 1000) H' → H t = none → LogAt K H' t rs → rs.length ≤ 40 → (∀ r ∈ rs, r.Ok) → Q (.ref t) H'
theorem ok_log (T : Txt w K mg) : FnOk P w K mg base CX0 4 T.a_log T.d_log ["_law_pen_here", "_law_most"] (spLog K) := by
  have G_draw := ok_draw (P := P) (base := base) T
  have G_pick := ok_pick (P := P) (base := base) T
  have G_word := ok_word (P := P) (base := base) T
  refine T.F_log.ok sc_log (fun vs H Q E h => ?_) (fun cdv A outer s H vs Q E hr h => ?_)
  · obtain ⟨p, c, n, m, rfl, _⟩ := h
    rfl
  · obtain ⟨p, c, n, m, rfl, hp, hc, hn, m1, m2, k⟩ := h
    have hr_word := hr
    have hr_pick := hr.mono (show 2 ≤ 3 by decide)
    have hr_draw := hr.mono (show 1 ≤ 3 by decide)
    refine ⟨_, (pss_cons (ps_set (i := 2) sc_log.nd rfl (by first | exact Or.inl rfl | exact Or.inr rfl) (pe_ix (kx_list K) (pe_lst (pa_cons (pe_call G_draw hr_draw (by rfl) T.g_draw T.F_draw.kp T.b_draw .nil pass0 (pa_cons (pv 0) (pa_cons (pe_op op_add (pv 1) pe_int) pa_nil))) (pa_cons (pe_call G_draw hr_draw (by rfl) T.g_draw T.F_draw.kp T.b_draw .nil pass0 (pa_cons (pv 0) (pa_cons pe_int pa_nil))) (pa_cons (pv 1) pa_nil)))) (pe_op op_fdivN (pe_call G_draw hr_draw (by rfl) T.g_draw T.F_draw.kp T.b_draw .nil pass0 (pa_cons (pv 0) (pa_cons pe_int pa_nil))) pe_int) (fun _ _ => rfl)))
  (pss_cons (ps_set (i := 3) sc_log.nd rfl (by first | exact Or.inl rfl | exact Or.inr rfl) (pe_tup (pa_cons pe_str (pa_cons pe_str (pa_cons pe_str (pa_cons pe_str (pa_cons pe_str (pa_cons pe_str pa_nil))))))))
  (pss_cons (ps_set (i := 4) sc_log.nd rfl (by first | exact Or.inl rfl | exact Or.inr rfl) (pe_call G_pick hr_pick (by rfl) T.g_pick T.F_pick.kp T.b_pick .nil pass0 (pa_cons (pv 0) (pa_cons (pe_lst (pa_cons (pv 3) (pa_cons (pe_tup (pa_cons pe_str (pa_cons pe_str pa_nil))) (pa_cons (pe_tup (pa_cons pe_str (pa_cons pe_str pa_nil))) (pa_cons (pe_tup (pa_cons pe_str (pa_cons pe_str (pa_cons pe_str (pa_cons pe_str pa_nil))))) pa_nil))))) pa_nil))))
  (pss_cons (ps_setLc (i := 5) (own := [("_law_k", 9)]) rfl sc_log.nd rfl rfl (sw_true rfl rfl rfl (by decide +kernel)) (pi_range1 (by rfl) T.z_range (pa_cons pe_int pa_nil)) (blkOk_by (own := [("_law_k", 9)]) (N := ["_law_pen_here", "_law_most", "_law_many", "_law_every", "_law_lines", "_law_words", "_law_orders", "_law_time", "_law_rows", "_law_k", "_law_wire", "_law_what"]) (sc := defScope s_log) (by decide +kernel)) (fun _ _ _ _ _ => (pg_name (i := 9) sc_log.nd rfl (by first | exact Or.inl rfl | exact Or.inr rfl))) (fun _ _ _ _ _ => pts_nil) (fun _ _ _ _ _ => (pe_call G_word hr_word (by rfl) T.g_word T.F_word.kp T.b_word .nil pass0 (pa_cons (pv 0) pa_nil))))
  (pss_cons (ps_setLc (i := 6) (own := [("_law_k", 9)]) rfl sc_log.nd rfl rfl (sw_true rfl rfl rfl (by decide +kernel)) (pi_range1 (by rfl) T.z_range (pa_cons (pe_op op_add pe_int (pe_call G_draw hr_draw (by rfl) T.g_draw T.F_draw.kp T.b_draw .nil pass0 (pa_cons (pv 0) (pa_cons pe_int pa_nil)))) pa_nil)) (blkOk_by (own := [("_law_k", 9)]) (N := ["_law_pen_here", "_law_most", "_law_many", "_law_every", "_law_lines", "_law_words", "_law_orders", "_law_time", "_law_rows", "_law_k", "_law_wire", "_law_what"]) (sc := defScope s_log) (by decide +kernel)) (fun _ _ _ _ _ => (pg_name (i := 9) sc_log.nd rfl (by first | exact Or.inl rfl | exact Or.inr rfl))) (fun _ _ _ _ _ => pts_nil) (fun _ _ _ _ _ => (pe_op op_sub (pe_call G_draw hr_draw (by rfl) T.g_draw T.F_draw.kp T.b_draw .nil pass0 (pa_cons (pv 0) (pa_cons pe_int pa_nil))) pe_int)))
  (pss_cons (ps_set (i := 7) sc_log.nd rfl (by first | exact Or.inl rfl | exact Or.inr rfl) (pe_call G_pick hr_pick (by rfl) T.g_pick T.F_pick.kp T.b_pick .nil pass0 (pa_cons (pv 0) (pa_cons (pe_lst (pa_cons pe_int (pa_cons pe_int (pa_cons (pe_call G_draw hr_draw (by rfl) T.g_draw T.F_draw.kp T.b_draw .nil pass0 (pa_cons (pv 0) (pa_cons pe_int pa_nil))) (pa_cons (pe_op op_sub pe_int (pe_call G_draw hr_draw (by rfl) T.g_draw T.F_draw.kp T.b_draw .nil pass0 (pa_cons (pv 0) (pa_cons pe_int pa_nil)))) pa_nil))))) pa_nil))))
  (pss_cons (ps_set (i := 8) sc_log.nd rfl (by first | exact Or.inl rfl | exact Or.inr rfl) (pe_lst pa_nil))
  (pss_cons (ps_for PassesOwn.never rfl (pi_range1 (by rfl) T.z_range (pa_cons (pv 2) pa_nil)) (pg_name (i := 9) sc_log.nd rfl (by first | exact Or.inl rfl | exact Or.inr rfl)) (pss_cons (ps_set (i := 7) sc_log.nd rfl (by first | exact Or.inl rfl | exact Or.inr rfl) (pe_callB (call_min2 rfl) (by rfl) T.z_min (by decide +kernel) (pa_cons pe_int (pa_cons (pe_op op_add (pv 7) (pe_ix (kx_list K) (pe_lst (pa_cons pe_int (pa_cons pe_int (pa_cons pe_int (pa_cons (pe_call G_draw hr_draw (by rfl) T.g_draw T.F_draw.kp T.b_draw .nil pass0 (pa_cons (pv 0) (pa_cons pe_int pa_nil))) (pa_cons (pe_call G_draw hr_draw (by rfl) T.g_draw T.F_draw.kp T.b_draw .nil pass0 (pa_cons (pv 0) (pa_cons pe_int pa_nil))) (pa_cons pe_int pa_nil))))))) (pe_call G_draw hr_draw (by rfl) T.g_draw T.F_draw.kp T.b_draw .nil pass0 (pa_cons (pv 0) (pa_cons pe_int pa_nil))) (fun _ _ => rfl))) pa_nil))))
  (pss_cons (ps_set (i := 10) sc_log.nd rfl (by first | exact Or.inl rfl | exact Or.inr rfl) (pe_call G_pick hr_pick (by rfl) T.g_pick T.F_pick.kp T.b_pick .nil pass0 (pa_cons (pv 0) (pa_cons (pv 4) pa_nil))))
  (pss_cons (ps_set (i := 11) sc_log.nd rfl (by first | exact Or.inl rfl | exact Or.inr rfl) (pe_call G_pick hr_pick (by rfl) T.g_pick T.F_pick.kp T.b_pick .nil pass0 (pa_cons (pv 0) (pa_cons (pv 6) pa_nil))))
  (C8.pss_cut (ps_if (pt_cmpR (k_in K) (pv 10) (pe_tup (pa_cons pe_str (pa_cons pe_str pa_nil))) (by rfl)) (pss_one (ps_set (i := 11) sc_log.nd rfl (by first | exact Or.inl rfl | exact Or.inr rfl) (pe_call G_pick hr_pick (by rfl) T.g_pick T.F_pick.kp T.b_pick .nil pass0 (pa_cons (pv 0) (pa_cons (pv 5) pa_nil))))) pss_nil)
  (pss_one (ps_expr (pe_bm PySem.F.plainAttrs_list PySem.F.slot_list_append PySem.F.type_list_append mt_append (pv 8) (pa_cons (pe_tup (pa_cons (pv 7) (pa_cons (pv 10) (pa_cons (pv 11) pa_nil)))) pa_nil)))))))))
  (pss_one (ps_ret (pe_callTy (k_tupOf K) (by rfl) T.z_tuple (by decide +kernel) (pa_cons (pv 8) pa_nil)))))))))))), ?_⟩
    have g0 := Go.refl hp hc
    -- how many
    refine ⟨_, rfl, _, rfl, _, _, rfl, rfl, p, c, n, _, rfl, hp, hc, by omega, by omega, by omega, fun H1 r1 g1 a1 b1 => ?_⟩
    refine ⟨_, rfl, p, c, n + 1, _, rfl, g1.pen, g1.cel, by omega, by decide, by decide, fun H2 r2 g2 a2 b2 => ?_⟩
    refine ⟨_, rfl, (by show 3 ≤ sizeLine; decide), fun l1 hl1 => ?_⟩
    have G2 := (g1.trans g2).new hl1 (o := .lst [V.int r1, V.int r2, V.int m])
    have f2 : (upd H2 l1 (.lst [V.int r1, V.int r2, V.int m])) l1 = some (.lst [V.int r1, V.int r2, V.int m]) := upd_same
    generalize upd H2 l1 (.lst [V.int r1, V.int r2, V.int m]) = H3 at G2 f2 ⊢
    have nl1 : l1 ≠ p := Ne.symm ((g1.trans g2).ne_new hl1)
    refine ⟨_, rfl, p, c, n + 1 + 1, _, rfl, G2.pen, G2.cel, by omega, by decide, by decide, fun H4 r4 g4 a4 b4 => ?_⟩
    have q0 : 0 ≤ Int.fdiv r4 4 := fdiv_ge a4 (by decide)
    have q1 : Int.fdiv r4 4 < 3 := by
      rw [Int.fdiv_eq_ediv_of_nonneg _ (by decide)]
      omega
    obtain ⟨v0, hv0, ev0⟩ := atI_lt (xs := [V.int r1, V.int r2, V.int m]) q0 (by show Int.fdiv r4 4 < ((3 : Nat) : Int); exact q1)
    obtain ⟨many, rfl, mn0, mn1⟩ : ∃ many : Int, v0 = .int many ∧ 0 ≤ many ∧ many ≤ 40 := by
      have z : v0 = V.int r1 ∨ v0 = V.int r2 ∨ v0 = V.int m := by simpa using hv0
      rcases z with z | z | z <;> exact ⟨_, z, by omega, by omega⟩
    refine ⟨_, _, rfl, rfl, ⟨by omega, by omega⟩, l1, _, _, _, rfl, rfl, g4.but.seqL nl1 (SqL.of f2), ev0, ?_⟩
    have G4 := G2.trans g4
    clear ev0 hv0 f2 G2 g4 g1 g2
    -- the lines
    refine ⟨(by show 6 ≤ sizeLine; decide), fun e0 he0 => ?_⟩
    generalize hX : upd H4 e0 _ = H5
    obtain ⟨S5, f5⟩ := alloc he0 hX
    have G5 := G4.same S5
    clear hX
    refine ⟨_, rfl, _, rfl, (by show 2 ≤ sizeLine; decide), fun t1 ht1 => ?_⟩
    generalize hX : upd H5 t1 _ = H6
    obtain ⟨S6, f6⟩ := alloc ht1 hX
    have G6 := G5.same S6
    clear hX
    refine ⟨(by show 2 ≤ sizeLine; decide), fun t2 ht2 => ?_⟩
    generalize hX : upd H6 t2 _ = H7
    obtain ⟨S7, f7⟩ := alloc ht2 hX
    have G7 := G6.same S7
    clear hX
    refine ⟨(by show 4 ≤ sizeLine; decide), fun t3 ht3 => ?_⟩
    generalize hX : upd H7 t3 _ = H8
    obtain ⟨S8, f8⟩ := alloc ht3 hX
    have G8 := G7.same S8
    clear hX
    refine ⟨(by show 4 ≤ sizeLine; decide), fun l2 hl2 => ?_⟩
    generalize hX : upd H8 l2 _ = H9
    obtain ⟨S9, f9⟩ := alloc hl2 hX
    have G9 := G8.same S9
    have nl2 := Ne.symm (G8.ne_new hl2)
    clear hX
    have S69 := (S7.trans S8).trans S9
    refine ⟨p, c, l2, _, _, rfl, G9.pen, G9.cel, by omega, .inl ⟨SqL.of f9, nl2⟩, by simp, (by show 4 ≤ 1000000; decide), fun H10 v10 g10 hv10 => ?_⟩
    have G10 := G9.trans g10
    obtain ⟨ql, lns, rfl, hql, hlne, hllen, hlsub⟩ : ∃ (ql : Addr) (lns : List Str), v10 = .ref ql ∧ SqT K H10 ql (lns.map V.str) ∧ lns ≠ [] ∧ lns.length ≤ 6 ∧ ∀ l ∈ lns, l ∈ lines6 := by
      obtain ⟨_, _, ep, _⟩ := id G9.pen
      have z : v10 = V.ref e0 ∨ v10 = V.ref t1 ∨ v10 = V.ref t2 ∨ v10 = V.ref t3 := by simpa using hv10
      rcases z with z | z | z | z
      · exact ⟨e0, ["port", "star", "down", "aport", "astar", "up"], z, seqT_lst (SqT.of (S69 _ _ (S6 _ _ f5))) ep g10.but, by simp, by decide, by simp [lines6]⟩
      · exact ⟨t1, ["port", "aport"], z, seqT_lst (SqT.of (S69 _ _ f6)) ep g10.but, by simp, by decide, by simp [lines6]⟩
      · exact ⟨t2, ["port", "star"], z, seqT_lst (SqT.of (S9 _ _ (S8 _ _ f7))) ep g10.but, by simp, by decide, by simp [lines6]⟩
      · exact ⟨t3, ["star", "astar", "aport", "port"], z, seqT_lst (SqT.of (S9 _ _ f8)) ep g10.but, by simp, by decide, by simp [lines6]⟩
    clear hv10 f5 f6 f7 f8 f9 S5 S6 S7 S8 S9 S69 g10 G4 G5 G6 G7 G8 G9
    -- the words
    refine ⟨2, rfl, by decide, by decide, fun W hW => ?_⟩
    have hW0 := G10.free hW
    have nW : W ≠ p := Ne.symm (G10.ne_new hW)
    refine lc_it walk_range (fun i H' => Go K p c H (n + 4 + 10 * i) H' ∧ SqT K H' ql (lns.map V.str) ∧ ∃ ws : List Str, H' W = some (.lst (ws.map V.str)) ∧ ws.length = i ∧ ∀ x ∈ ws, TOk 8 x)
      ⟨G10.new hW, same_seqT (same_new (Same.refl _) hW) hql, [], upd_same, rfl, fun x hx => nomatch hx⟩ (fun _ _ _ _ => trivial) ?_ ?_
    · rintro i x Ha Hb hi ⟨g2, hs2, ws, e2, l2', o2⟩ ⟨rfl, rfl⟩
      refine ⟨rfl, _, rfl, p, c, n + 4 + 10 * i, rfl, g2.pen, g2.cel, by omega, fun Hc t gc ot => ?_⟩
      have ec := gc.but W _ nW e2
      refine ⟨_, ec, ?_, ((g2.trans gc).own hW0 nW hc).mono (by omega), seqT_lst (seqT_go hs2 g2.pen gc.but) ec But.put, ws ++ [t], ?_, by rw [List.length_append, l2']; rfl, fun x hx => ?_⟩
      · rw [List.length_map]
        exact small1000 (by omega)
      · rw [upd_same, List.map_append]
        rfl
      · rcases List.mem_append.mp hx with hx | hx
        · exact o2 x hx
        · have : x = t := by simpa using hx
          subst this
          exact ot
    rintro H11 ⟨G11, hs11, ws, e11, lws, ows⟩
    -- the orders
    refine ⟨_, rfl, p, c, n + 24, _, rfl, G11.pen, G11.cel, by omega, by decide, by decide, fun H12 r12 g12 a12 b12 => ?_⟩
    refine ⟨_, _, rfl, rfl, _, rfl, by omega, by omega, fun O hO => ?_⟩
    have G12 := G11.trans g12
    have hO0 := G12.free hO
    have nO : O ≠ p := Ne.symm (G12.ne_new hO)
    have nWO : W ≠ O := ne_of_none (g12.but W _ nW e11) hO
    refine lc_it walk_range (fun i H' => Go K p c H (n + 25 + i) H' ∧ SqT K H' ql (lns.map V.str) ∧ H' W = some (.lst (ws.map V.str)) ∧ ∃ os : List Int, H' O = some (.lst (os.map V.int)) ∧ os.length = i ∧ ∀ x ∈ os, -4 ≤ x ∧ x ≤ 4)
      ⟨G12.new hO, same_seqT (same_new (Same.refl _) hO) (seqT_go hs11 G11.pen g12.but), (upd_ne nWO).trans (g12.but W _ nW e11), [], upd_same, rfl, fun x hx => nomatch hx⟩ (fun _ _ _ _ => trivial) ?_ ?_
    · rintro i x Ha Hb hi ⟨g2, hs2, w2, os, e2, l2', o2⟩ ⟨rfl, rfl⟩
      refine ⟨rfl, _, rfl, p, c, n + 25 + i, _, rfl, g2.pen, g2.cel, by omega, by decide, by decide, fun Hc rc gc ac bc => ?_⟩
      have ec := gc.but O _ nO e2
      have wc := gc.but W _ nW w2
      refine ⟨_, _, rfl, rfl, _, ec, ?_, ((g2.trans gc).own hO0 nO hc).mono (by omega), seqT_lst (seqT_go hs2 g2.pen gc.but) ec But.put, (upd_ne nWO).trans wc, os ++ [rc - 4], ?_, by rw [List.length_append, l2']; rfl, fun x hx => ?_⟩
      · rw [List.length_map]
        exact small1000 (by omega)
      · rw [upd_same, List.map_append]
        rfl
      · rcases List.mem_append.mp hx with hx | hx
        · exact o2 x hx
        · have : x = rc - 4 := by simpa using hx
          omega
    rintro H13 ⟨G13, hs13, w13, os, e13, los, oos⟩
    have hos : os ≠ [] := fun z => by
      rw [z] at los
      have : ([] : List Int).length = 0 := rfl
      omega
    have hws : ws ≠ [] := fun z => by
      rw [z] at lws
      have : ([] : List Str).length = 0 := rfl
      omega
    -- the first minute
    refine ⟨_, rfl, _, rfl, p, c, _, _, rfl, G13.pen, G13.cel, by omega, by decide, by decide, fun H14 r14 g14 a14 b14 => ?_⟩
    refine ⟨_, rfl, p, c, _, _, rfl, g14.pen, g14.cel, by omega, by decide, by decide, fun H15 r15 g15 a15 b15 => ?_⟩
    refine ⟨_, _, rfl, rfl, (by show 4 ≤ sizeLine; decide), fun l3 hl3 => ?_⟩
    have G15 := G13.trans (g14.trans g15)
    have b15' := g14.but.trans g15.but
    generalize hX : upd H15 l3 _ = H16
    obtain ⟨S16, f16⟩ := alloc hl3 hX
    have G16 := G15.same S16
    have nl3 := Ne.symm (G15.ne_new hl3)
    clear hX
    refine ⟨p, c, l3, _, _, rfl, G16.pen, G16.cel, by omega, .inl ⟨SqL.of f16, nl3⟩, by simp, (by show 4 ≤ 1000000; decide), fun H17 v17 g17 hv17 => ?_⟩
    obtain ⟨time, rfl, tm0, tm1⟩ : ∃ time : Int, v17 = .int time ∧ 0 ≤ time ∧ time ≤ 99999 := by
      have z : v17 = V.int 0 ∨ v17 = V.int r14 ∨ v17 = V.int (99999 - r15) := by
        have z0 := hv17
        simp only [List.mem_cons, List.not_mem_nil, or_false] at z0
        rcases z0 with z | z | z | z <;> simp [z]
      rcases z with z | z | z <;> exact ⟨_, z, by omega, by omega⟩
    have G17 := G16.trans g17
    have hs17 : SqT K H17 ql (lns.map V.str) := seqT_go (same_seqT S16 (seqT_go hs13 G13.pen b15')) G16.pen g17.but
    have w17 : H17 W = some (.lst (ws.map V.str)) := g17.but _ _ nW (S16 _ _ (b15' _ _ nW w13))
    have o17 : H17 O = some (.lst (os.map V.int)) := g17.but _ _ nO (S16 _ _ (b15' _ _ nO e13))
    -- the rows
    refine ⟨(by show 0 ≤ sizeLine; decide), fun R hR => ?_⟩
    have nR := Ne.symm (G17.ne_new hR)
    generalize hX : upd H17 R _ = H18
    obtain ⟨S18, f18⟩ := alloc hR hX
    have G18 := G17.same S18
    clear hX
    refine ⟨_, rfl, _, rfl, by omega, by omega, ?_⟩
    refine for_it walk_range (fun i σ H' => ∃ (tm : Int) (x9 x10 x11 : Option V) (as : List Addr) (rs : List Row), σ = [some (.ref p), some (.int m), some (.int many), some (.ref e0), some (.ref ql), some (.ref W), some (.ref O), some (.int tm), some (.ref R), x9, x10, x11] ∧
        Go K p c H17 (n + 40 + 6 * i) H' ∧ SqT K H' ql (lns.map V.str) ∧ H' W = some (.lst (ws.map V.str)) ∧ H' O = some (.lst (os.map V.int)) ∧ H' R = some (.lst (as.map V.ref)) ∧ RowsAt K H' as rs ∧ rs.length = i ∧ (∀ r ∈ rs, r.Ok) ∧ 0 ≤ tm ∧ tm ≤ 99999)
      ⟨time, none, none, none, [], [], rfl, (G17.self.same S18).mono (by omega), same_seqT S18 hs17, S18 _ _ w17, S18 _ _ o17, f18, .nil, rfl, (fun r hr => nomatch hr), tm0, tm1⟩ (fun _ _ _ _ _ => trivial) ?_ ?_
    · rintro i x σ Ha Hb hi ⟨tm, x9, x10, x11, as, rs, rfl, ga, sa, wa, oa, ra, rowsa, lrs, oks, h70, h71⟩ ⟨rfl, rfl⟩
      have ei : i < 40 := by omega
      -- the minute
      refine ⟨_, rfl, _, rfl, p, c, _, _, rfl, ga.pen, ga.cel, by omega, by decide, by decide, fun Hc rc gc ac bc => ?_⟩
      refine ⟨_, rfl, p, c, _, _, rfl, gc.pen, gc.cel, by omega, by decide, by decide, fun Hd rd gd ad bd => ⟨(by show 6 ≤ sizeLine; decide), fun l4 hl4 => ?_⟩⟩
      have nl4 := Ne.symm ((gc.trans gd).ne_new hl4)
      generalize hX : upd Hd l4 _ = He
      obtain ⟨Se, fe⟩ := alloc hl4 hX
      have ge := (gc.trans gd).same Se
      clear hX
      refine ⟨_, rfl, p, c, _, _, rfl, ge.pen, ge.cel, by omega, by decide, by decide, fun Hf rf gf af bf => ?_⟩
      obtain ⟨v4, hv4, ev4⟩ := atI_lt (xs := [V.int 0, V.int 0, V.int 1, V.int rc, V.int rd, V.int 20000]) af (by show rf < ((6 : Nat) : Int); exact bf)
      obtain ⟨more, rfl, mo0⟩ : ∃ more : Int, v4 = .int more ∧ 0 ≤ more := by
        have z : v4 = V.int 0 ∨ v4 = V.int 1 ∨ v4 = V.int rc ∨ v4 = V.int rd ∨ v4 = V.int 20000 := by simpa using hv4
        rcases z with z | z | z | z | z <;> exact ⟨_, z, by omega⟩
      refine ⟨l4, _, _, _, rfl, rfl, gf.but.seqL nl4 (SqL.of fe), ev4, _, _, rfl, rfl, _, _, rfl, ?_⟩
      have gF := ge.trans gf
      obtain ⟨tm2, etm2, tm20, tm21⟩ : ∃ tm2 : Int, tm2 = (if tm + more < 99999 then tm + more else 99999) ∧ 0 ≤ tm2 ∧ tm2 ≤ 99999 := ⟨_, rfl, by split <;> omega, by split <;> omega⟩
      have bF := gF.but
      have sF := seqT_go sa ga.pen bF
      have wF := bF _ _ nW wa
      have oF := bF _ _ nO oa
      have rF := bF _ _ nR ra
      have rowsF := rowsa.go ga.pen bF
      have GF := ga.trans gF
      -- the line
      refine ⟨_, rfl, _, rfl, p, c, ql, _, _, rfl, gF.pen, gF.cel, by omega, .inr sF, (by simpa using hlne), (by rw [List.length_map]; omega), fun Hg v5 gg hv5 => ?_⟩
      obtain ⟨wire, hwire, rfl⟩ := List.mem_map.mp hv5
      -- what it bears
      refine ⟨_, rfl, _, rfl, p, c, O, _, _, rfl, gg.pen, gg.cel, by omega, .inl ⟨SqL.of (gg.but _ _ nO oF), nO⟩, (by simpa using hos), (by rw [List.length_map]; omega), fun Hh v6 gh hv6 => ?_⟩
      obtain ⟨ord, hord, rfl⟩ := List.mem_map.mp hv6
      have gH := gg.trans gh
      have GH := GF.trans gH
      have wH := gH.but _ _ nW wF
      have rH := gH.but _ _ nR rF
      have sH := seqT_go sF gF.pen gH.but
      have oH := gH.but _ _ nO oF
      have rowsH := rowsF.go gF.pen gH.but
      have l6 := hlsub _ hwire
      have o9 := oos _ hord
      -- on a tube
      refine ⟨fun σ2 H2 => ∃ what : What, σ2 = [some (.ref p), some (.int m), some (.int many), some (.ref e0), some (.ref ql), some (.ref W), some (.ref O), some (.int tm2), some (.ref R), some (.int (0 + (i : Nat))), some (.str wire), some what.v] ∧
        Go K p c H17 (n + 40 + 6 * (i + 1)) H2 ∧ SqT K H2 ql (lns.map V.str) ∧ H2 W = some (.lst (ws.map V.str)) ∧ H2 O = some (.lst (os.map V.int)) ∧ H2 R = some (.lst (as.map V.ref)) ∧ RowsAt K H2 as rs ∧
        ((wire ∈ tubes ∧ ∃ t, what = .name t ∧ TOk 8 t) ∨ (wire ∉ tubes ∧ ∃ i, what = .order i ∧ -4 ≤ i ∧ i ≤ 4)), ?_, ?_⟩
      · refine ⟨_, rfl, (by show 2 ≤ sizeLine; decide), fun t4 ht4 => ?_⟩
        generalize hX : upd Hh t4 _ = Hi
        obtain ⟨Si, fi⟩ := alloc ht4 hX
        clear hX
        have gi := gH.same Si
        have GI := GH.same Si
        refine ⟨t4, _, rfl, .inr (SqT.of fi), rfl, rfl, _, rfl, ?_⟩
        have inT : inV (V.str wire) [V.str (Str.ofString "down"), V.str (Str.ofString "up")] = decide (wire ∈ tubes) := by
          rw [Bool.eq_iff_iff]
          simp only [inV, List.any_cons, List.any_nil, Bool.or_false, eqV, Bool.or_eq_true, beq_iff_eq, decide_eq_true_eq, tubes, List.mem_cons, List.not_mem_nil, or_false]
          constructor
          · rintro (z | z)
            · exact .inl z.symm
            · exact .inr z.symm
          · rintro (z | z)
            · exact .inl z.symm
            · exact .inr z.symm
        show if inV (V.str wire) [V.str (Str.ofString "down"), V.str (Str.ofString "up")] = true then _ else _
        rw [inT]
        refine ite2 (fun z => ?_) (fun z => ?_)
        · have z' : wire ∈ tubes := of_decide_eq_true z
          have wI := Si _ _ wH
          refine ⟨_, rfl, _, rfl, p, c, W, _, _, rfl, GI.pen, GI.cel, by omega, .inl ⟨SqL.of wI, nW⟩, (by simpa using hws), (by rw [List.length_map, lws]; decide), fun Hj v7 gj hv7 => ?_⟩
          obtain ⟨nm, hnm, rfl⟩ := List.mem_map.mp hv7
          exact ⟨.name nm, by rw [etm2]; rfl, (GI.trans gj).mono (by omega), seqT_go (same_seqT Si sH) GI.pen gj.but, gj.but _ _ nW wI, gj.but _ _ nO (Si _ _ oH), gj.but _ _ nR (Si _ _ rH), (rowsH.same Si).go GI.pen gj.but, .inl ⟨z', nm, rfl, ows _ hnm⟩⟩
        · have z' : wire ∉ tubes := fun y => z (decide_eq_true y)
          exact ⟨.order ord, by rw [etm2]; rfl, GI.mono (by omega), same_seqT Si sH, Si _ _ wH, Si _ _ oH, Si _ _ rH, rowsH.same Si, .inr ⟨z', ord, rfl, o9.1, o9.2⟩⟩
      · rintro σ2 H2 ⟨what, rfl, g2, s2, w2, o2, r2, rows2, hw⟩
        -- rows.append((time, wire, what))
        refine ⟨_, rfl, .inl ⟨rfl, _, SqL.of r2⟩, _, rfl, _, rfl, _, rfl, (by show 3 ≤ sizeLine; decide), fun a ha => ?_⟩
        generalize hX : upd H2 a _ = H2'
        obtain ⟨S3, f3⟩ := alloc ha hX
        clear hX
        have nRa : R ≠ a := ne_of_none r2 ha
        refine ⟨R, _, _, rfl, rfl, S3 _ _ r2, (by rw [List.length_map, rowsH.length, lrs]; exact small1000 (by omega)), ?_⟩
        have b3 : But R H2' (upd H2' R (.lst (as.map V.ref ++ [V.ref a]))) := But.put
        refine ⟨tm2, _, _, _, as ++ [a], rs ++ [⟨tm2, wire, what⟩], rfl, (g2.same S3).own hR nR G17.cel, ?_, ?_, ?_, ?_, ?_, by rw [List.length_append, lrs]; rfl, ?_, tm20, tm21⟩
        · exact seqT_lst (same_seqT S3 s2) (S3 _ _ r2) b3
        · exact b3 _ _ (ne_of_none w17 hR) (S3 _ _ w2)
        · exact b3 _ _ (ne_of_none o17 hR) (S3 _ _ o2)
        · rw [upd_same, List.map_append]
          rfl
        · exact ((rows2.same S3).snoc (SqT.of f3)).lst (S3 _ _ r2) b3
        · intro r hr'
          rcases List.mem_append.mp hr' with z | z
          · exact oks r z
          · have z' : r = ⟨tm2, wire, what⟩ := by simpa using z
            subst z'
            exact ⟨tm20, tm21, l6, hw⟩
    · rintro σ Ha ⟨tm, x9, x10, x11, as, rs, rfl, ga, sa, wa, oa, ra, rowsa, lrs, oks, h70, h71⟩
      refine ⟨_, rfl, R, _, rfl, .inl ⟨SqL.of ra, fun l hl => ?_⟩⟩
      have S4 : Same Ha (upd Ha l (.tup (as.map V.ref))) := same_new (Same.refl _) hl
      have GA := G17.trans ga
      exact k _ l rs ((GA.same S4).mono (by omega)) (GA.free hl) ⟨as, SqT.of upd_same, rowsa.same S4⟩ (by omega) oks
def spPen (K : PySem.W.Frag) : Sp := fun vs H Q _ => ∃ (a : Addr) (ns : List Int), vs = [.ref a] ∧ SqL K H a (ns.map V.int) ∧ ns.length ≤ 63 ∧ ∀ H' p c, Same H H' → H p = none → PenAt H' p c 0 → Cells K H' p c → Q (.ref p) H'
theorem ok_pen (T : Txt w K mg) : FnOk P w K mg base CX0 1 T.a_pen T.d_pen ["_law_script"] (spPen K) := by
  refine T.F_pen.ok sc_pen (fun vs H Q E h => ?_) (fun cdv A outer s H vs Q E hr h => ?_)
  · obtain ⟨a, ns, rfl, _⟩ := h
    rfl
  · obtain ⟨a, ns, rfl, hS, hl, k⟩ := h
    refine ⟨_, (pss_one (ps_ret (pe_lst (pa_cons (pe_slice (k_slL K) (pv 0) po_none (po_some pe_int)) (pa_cons pe_int (pa_cons pe_int pa_nil)))))), ?_⟩
    refine ⟨_, rfl, _, rfl, a, _, rfl, hS, fun c hc => ?_⟩
    generalize hX : upd H c _ = H1
    obtain ⟨S1, f1⟩ := alloc hc hX
    clear hX
    refine ⟨(by show 3 ≤ sizeLine; decide), fun p hp => ?_⟩
    generalize hX : upd H1 p _ = H2
    obtain ⟨S2, f2⟩ := alloc hp hX
    clear hX
    have e : cutV (ns.map V.int) none (some 63) = (ns.take (min 63 ns.length)).map V.int := by
      show cutV (ns.map V.int) none (some ((63 : Nat) : Int)) = _
      unfold cutV
      rw [HT.sIx_none, HT.sIx_nat, List.drop_zero, Nat.sub_zero, List.length_map, List.map_take]
    rw [e] at f1
    exact k H2 p c (S1.trans S2) (S1.free hp) ⟨0, 0, f2, by decide, by decide, by decide⟩ ⟨ne_of_none f1 hp, _, SqL.of (S2 _ _ f1), by rw [List.length_take]; omega⟩

def spLaw (K : PySem.W.Frag) : Sp := fun vs H Q _ => ∃ (a : Addr) (ns : List Int), vs = [.ref a] ∧ SqL K H a (ns.map V.int) ∧ ns.length ≤ 63 ∧ ∀ H', Q (.bl true) H'
theorem law_in (K : PySem.W.Frag) (H : Hp) (a : Addr) (ns : List Int) (h1 : ns.length ≤ 63) (_ : ∀ k ∈ ns, Builtin.Int.intBits k ≤ 1048576) (_ : Only H) (h2 : SqL K H a (ns.map V.int)) : spLaw K [.ref a] H (fun v _ => v = .bl true) fun _ _ _ => False :=
  ⟨a, ns, rfl, h2, h1, fun _ => rfl⟩
/-! ### what stands -/
def standStep (l : Str) (m : Int) (st : Option What) (r : Row) : Option What := if r.l = l ∧ r.m ≤ m then some r.w else st
def standTo (rs : List Row) (l : Str) (m : Int) : Nat → Option What
  | 0 => none
  | i + 1 => match rs[i]? with
    | some r => standStep l m (standTo rs l m i) r
    | none => standTo rs l m i
def ovOr (d : V) : Option What → V
  | none => d
  | some x => x.v
def spStand (K : PySem.W.Frag) : Sp := fun vs H Q _ => ∃ (t : Addr) (rs : List Row) (l : Str) (m : Int) (d : V), vs = [.ref t, .str l, .int m, d] ∧ LogAt K H t rs ∧ Q (ovOr d (standTo rs l m rs.length)) H
theorem ok_standing (T : Txt w K mg) : FnOk P w K mg base CX0 1 T.a_standing T.d_standing ["log", "line", "minute", "none"] (spStand K) := by
  refine FunD_okN T.F_standing sc_standing (fun vs H Q E h => ?_) (fun cdv A outer s H vs Q E hr h => ?_)
  · obtain ⟨t, rs, l, m, d, rfl, _⟩ := h
    rfl
  · obtain ⟨t, rs, l, m, d, rfl, hL, k⟩ := h
    obtain ⟨as, hT, hR⟩ := id hL
    refine ⟨_, (pss_cons (ps_set (i := 4) sc_standing.nd rfl (by first | exact Or.inl rfl | exact Or.inr rfl) (pv 3))
  (pss_cons (ps_for PassesOwn.never rfl (k_piT K (pv 0)) (k_pgT (n := 3) K rfl (pgs_cons (pg_name (i := 5) sc_standing.nd rfl (by first | exact Or.inl rfl | exact Or.inr rfl)) (pgs_cons (pg_name (i := 6) sc_standing.nd rfl (by first | exact Or.inl rfl | exact Or.inr rfl)) (pgs_cons (pg_name (i := 7) sc_standing.nd rfl (by first | exact Or.inl rfl | exact Or.inr rfl)) pgs_nil)))) (pss_one (ps_if (PW.pt (pw_and (pt_cmpR op_eq (pv 6) (pv 1) (nomark _)) (pw_and1 (pt_cmpR op_le (pv 5) (pv 2) (nomark _))))) (pss_one (ps_set (i := 4) sc_standing.nd rfl (by first | exact Or.inl rfl | exact Or.inr rfl) (pv 7))) pss_nil)))
  (pss_one (ps_ret (pv 4))))), ?_⟩
    refine ⟨_, rfl, _, rfl, t, rfl, ⟨_, hT⟩, ?_⟩
    refine for_it walk_tup (fun i σ H' => ∃ (x5 x6 x7 : Option V), σ = [some (.ref t), some (.str l), some (.int m), some d, some (ovOr d (standTo rs l m i)), x5, x6, x7] ∧ H' = H)
      ⟨none, none, none, rfl, rfl⟩ (fun i σ H' _ ⟨_, _, _, _, q⟩ => q ▸ hT) ?_ ?_
    · rintro i x σ _ H2 hi ⟨x5, x6, x7, rfl, hHH⟩ ⟨rfl, hx⟩
      subst hHH
      obtain ⟨a, ha, rfl⟩ : ∃ a, as[i]? = some a ∧ x = V.ref a := by
        rw [List.getElem?_map] at hx
        cases z : as[i]? with
        | none => rw [z] at hx; cases hx
        | some a => rw [z] at hx; exact ⟨a, rfl, (Option.some.inj hx).symm⟩
      obtain ⟨r, hr1, row⟩ := hR.get' ha
      have step : standTo rs l m (i + 1) = standStep l m (standTo rs l m i) r := by
        show (match rs[i]? with | some r => standStep l m (standTo rs l m i) r | none => standTo rs l m i) = _
        rw [hr1]
      refine ⟨a, _, rfl, row, rfl, _, _, rfl, _, _, rfl, _, _, rfl, rfl, ?_⟩
      refine ⟨_, rfl, _, rfl, rfl, _, rfl, ite2 (fun z => ?_) (fun z => ?_)⟩
      · have z' : r.l = l := V.str.inj (of_decide_eq_true z)
        refine ⟨_, rfl, _, rfl, _, _, rfl, rfl, _, rfl, ite2 (fun y => ?_) (fun y => ?_)⟩
        · have y' : r.m ≤ m := of_decide_eq_true y
          refine ⟨_, rfl, some (.int r.m), some (.str r.l), some r.w.v, ?_, rfl⟩
          rw [step, standStep, if_pos ⟨z', y'⟩]
          rfl
        · have y' : ¬ r.m ≤ m := fun w => y (decide_eq_true w)
          refine ⟨some (.int r.m), some (.str r.l), some r.w.v, ?_, rfl⟩
          rw [step, standStep, if_neg fun w => y' w.2]
          rfl
      · have z' : ¬ r.l = l := fun w => z (decide_eq_true (by rw [w]))
        refine ⟨some (.int r.m), some (.str r.l), some r.w.v, ?_, rfl⟩
        rw [step, standStep, if_neg fun w => z' w.1]
        rfl
    · rintro σ H2 ⟨x5, x6, x7, rfl, rfl⟩
      rw [List.length_map, hR.length]
      exact ⟨_, rfl, k⟩
theorem standTo_mem {rs : List Row} {l : Str} {m : Int} {w : What} : ∀ {i : Nat}, standTo rs l m i = some w → ∃ r ∈ rs, r.w = w ∧ r.l = l ∧ r.m ≤ m
  | 0, h => nomatch h
  | i + 1, h => by
    have h2 : (match rs[i]? with | some r => standStep l m (standTo rs l m i) r | none => standTo rs l m i) = some w := h
    cases z : rs[i]? with
    | none =>
      rw [z] at h2
      exact standTo_mem h2
    | some r =>
      rw [z] at h2
      simp only [standStep] at h2
      split at h2
      · rename_i q
        exact ⟨r, List.mem_of_getElem? z, Option.some.inj h2, q⟩
      · exact standTo_mem h2
def spStands (K : PySem.W.Frag) : Sp := fun vs H Q _ => ∃ (t : Addr) (rs : List Row) (l : Str) (m : Int), vs = [.ref t, .str l, .int m] ∧ LogAt K H t rs ∧ Q (ovOr .non (standTo rs l m rs.length)) H
theorem ok_stands (T : Txt w K mg) : FnOk P w K mg base CX0 1 T.a_stands T.d_stands ["_law_page", "_law_wire", "_law_time"] (spStands K) := by
  refine T.F_stands.ok sc_stands (fun vs H Q E h => ?_) (fun cdv A outer s H vs Q E hr h => ?_)
  · obtain ⟨t, rs, l, m, rfl, _⟩ := h
    rfl
  · obtain ⟨t, rs, l, m, rfl, hL, k⟩ := h
    obtain ⟨as, hT, hR⟩ := id hL
    refine ⟨_, (pss_cons (ps_set (i := 3) sc_stands.nd rfl (by first | exact Or.inl rfl | exact Or.inr rfl) pe_non)
  (pss_cons (ps_for PassesOwn.never rfl (k_piT K (pv 0)) (pg_name (i := 4) sc_stands.nd rfl (by first | exact Or.inl rfl | exact Or.inr rfl)) (pss_one (ps_if (PW.pt (pw_and (pt_cmpR op_eq (pe_ix (kx_tup K) (pv 4) pe_int (fun _ _ => rfl)) (pv 1) (nomark _)) (pw_and1 (pt_cmpR op_le (pe_ix (kx_tup K) (pv 4) pe_int (fun _ _ => rfl)) (pv 2) (nomark _))))) (pss_one (ps_set (i := 3) sc_stands.nd rfl (by first | exact Or.inl rfl | exact Or.inr rfl) (pe_ix (kx_tup K) (pv 4) pe_int (fun _ _ => rfl)))) pss_nil)))
  (pss_one (ps_ret (pv 3))))), ?_⟩
    refine ⟨_, rfl, t, rfl, ⟨_, hT⟩, ?_⟩
    refine for_it walk_tup (fun i σ H' => ∃ (x5 : Option V), σ = [some (.ref t), some (.str l), some (.int m), some (ovOr .non (standTo rs l m i)), x5] ∧ H' = H)
      ⟨none, rfl, rfl⟩ (fun i σ H' _ ⟨_, _, q⟩ => q ▸ hT) ?_ ?_
    · rintro i x σ _ H2 hi ⟨x5, rfl, hHH⟩ ⟨rfl, hx⟩
      subst hHH
      obtain ⟨a, ha, rfl⟩ : ∃ a, as[i]? = some a ∧ x = V.ref a := by
        rw [List.getElem?_map] at hx
        cases z : as[i]? with
        | none => rw [z] at hx; cases hx
        | some a => rw [z] at hx; exact ⟨a, rfl, (Option.some.inj hx).symm⟩
      obtain ⟨r, hr1, row⟩ := hR.get' ha
      have step : standTo rs l m (i + 1) = standStep l m (standTo rs l m i) r := by
        show (match rs[i]? with | some r => standStep l m (standTo rs l m i) r | none => standTo rs l m i) = _
        rw [hr1]
      refine ⟨_, rfl, a, _, _, _, rfl, rfl, row, rfl, _, rfl, rfl, _, rfl, ite2 (fun z => ?_) (fun z => ?_)⟩
      · have z' : r.l = l := V.str.inj (of_decide_eq_true z)
        refine ⟨_, rfl, a, _, _, _, rfl, rfl, row, rfl, _, rfl, _, _, rfl, rfl, _, rfl, ite2 (fun y => ?_) (fun y => ?_)⟩
        · have y' : r.m ≤ m := of_decide_eq_true y
          refine ⟨_, rfl, a, _, _, _, rfl, rfl, row, rfl, some (.ref a), ?_, rfl⟩
          rw [step, standStep, if_pos ⟨z', y'⟩]
          rfl
        · have y' : ¬ r.m ≤ m := fun w => y (decide_eq_true w)
          refine ⟨some (.ref a), ?_, rfl⟩
          rw [step, standStep, if_neg fun w => y' w.2]
          rfl
      · have z' : ¬ r.l = l := fun w => z (decide_eq_true (by rw [w]))
        refine ⟨some (.ref a), ?_, rfl⟩
        rw [step, standStep, if_neg fun w => z' w.1]
        rfl
    · rintro σ H2 ⟨x5, rfl, rfl⟩
      rw [List.length_map, hR.length]
      exact ⟨_, rfl, k⟩
/-! ### minutes to be asked -/
def spMinutes (K : PySem.W.Frag) : Sp := fun vs H Q _ => ∃ (p c t : Addr) (n : Nat) (rs : List Row), vs = [.ref p, .ref t] ∧ PenAt H p c n ∧ Cells K H p c ∧ n ≤ 900000 ∧ LogAt K H t rs ∧ rs.length ≤ 41 ∧
  ∀ (H' : Hp) (l : Addr) (ns : List Int), Go K p c H (n + 10) H' → H' l = some (.lst (ns.map V.int)) → Q (.ref l) H'
theorem ok_minutes (T : Txt w K mg) : FnOk P w K mg base CX0 3 T.a_minutes T.d_minutes ["_law_pen_here", "_law_page"] (spMinutes K) := by
  have G_draw := ok_draw (P := P) (base := base) T
  have G_pick := ok_pick (P := P) (base := base) T
  refine T.F_minutes.ok sc_minutes (fun vs H Q E h => ?_) (fun cdv A outer s H vs Q E hr h => ?_)
  · obtain ⟨p, c, t, n, rs, rfl, _⟩ := h
    rfl
  · obtain ⟨p, c, t, n, rs, rfl, hp, hc, hn, hL, hlen, k⟩ := h
    have hr_pick := hr
    have hr_draw := hr.mono (show 1 ≤ 2 by decide)
    obtain ⟨as, hT, hR⟩ := id hL
    have la := hR.length
    refine ⟨_, (pss_cons (ps_set (i := 2) sc_minutes.nd rfl (by first | exact Or.inl rfl | exact Or.inr rfl) (pe_lst (pa_cons pe_int (pa_cons (pe_un un_neg pe_int) (pa_cons pe_int (pa_cons (pe_op op_sub pe_int (pe_op op_pow pe_int pe_int)) (pa_cons (pe_op op_pow pe_int pe_int) (pa_cons (pe_call G_draw hr_draw (by rfl) T.g_draw T.F_draw.kp T.b_draw .nil pass0 (pa_cons (pv 0) (pa_cons pe_int pa_nil))) pa_nil))))))))
  (pss_cons (ps_for PassesOwn.never rfl (pi_range1 (by rfl) T.z_range (pa_cons (pe_op op_mul pe_int (pe_callTy call_int1 (by rfl) T.z_int (by decide +kernel) (pa_cons (pe_cmpR op_gt (pe_callB (k_len K) (by rfl) T.z_len (by decide +kernel) (pa_cons (pv 1) pa_nil)) pe_int (nomark _)) pa_nil))) pa_nil)) (pg_name (i := 3) sc_minutes.nd rfl (by first | exact Or.inl rfl | exact Or.inr rfl)) (pss_cons (ps_set (i := 4) sc_minutes.nd rfl (by first | exact Or.inl rfl | exact Or.inr rfl) (pe_ix (kx_tup K) (pe_call G_pick hr_pick (by rfl) T.g_pick T.F_pick.kp T.b_pick .nil pass0 (pa_cons (pv 0) (pa_cons (pv 1) pa_nil))) pe_int (fun _ _ => rfl)))
  (pss_one (ps_expr (pe_bm PySem.F.plainAttrs_list PySem.F.slot_list_extend PySem.F.type_list_extend mt_extend (pv 2) (pa_cons (pe_lst (pa_cons (pv 4) (pa_cons (pe_op op_sub (pv 4) pe_int) (pa_cons (pe_op op_add (pv 4) pe_int) pa_nil)))) pa_nil))))))
  (pss_one (ps_ret (pv 2))))), ?_⟩
    refine ⟨_, rfl, _, _, rfl, rfl, ⟨by decide, by decide, by decide⟩, _, _, rfl, rfl, _, _, rfl, rfl, ⟨by decide, by decide, by decide⟩, ?_⟩
    refine ⟨_, rfl, p, c, n, _, rfl, hp, hc, by omega, by decide, by decide, fun H1 r1 g1 a1 b1 => ⟨(by show 6 ≤ sizeLine; decide), fun l hl => ?_⟩⟩
    have nl := Ne.symm (g1.ne_new hl)
    have hl0 := g1.free hl
    generalize hX : upd H1 l _ = H2
    obtain ⟨S2, f2⟩ := alloc hl hX
    have g2 := g1.same S2
    clear hX
    obtain ⟨ns0, hns0, fn0⟩ : ∃ ns0 : List Int, ns0.length = 6 ∧ H2 l = some (.lst (ns0.map V.int)) := ⟨[_, _, _, _, _, _], rfl, f2⟩
    have hL2 := hL.go hp g2.but
    refine ⟨_, rfl, t, _, rfl, .inr (seqT_go hT hp g2.but), _, _, rfl, rfl, .inr ⟨_, rfl, _, _, rfl, rfl, .inl ⟨by decide, by decide⟩, _, rfl, ?_⟩⟩
    refine ⟨by split <;> decide, by split <;> decide, ?_⟩
    refine for_it walk_range (fun i σ H' => ∃ (x3 x4 : Option V) (ns : List Int), σ = [some (.ref p), some (.ref t), some (.ref l), x3, x4] ∧ Go K p c H (n + 1 + i) H' ∧ H' l = some (.lst (ns.map V.int)) ∧ ns.length = 6 + 3 * i)
      ⟨none, none, ns0, rfl, g2, fn0, hns0⟩ (fun _ _ _ _ _ => trivial) ?_ ?_
    · rintro i x σ _ H3 hi ⟨x3, x4, ns, rfl, g3, e3, ln⟩ ⟨rfl, rfl⟩
      have hne : as ≠ [] := by
        intro z
        rw [z] at hi
        exact absurd hi (by simp)
      have hi5 : i < 5 := by
        split at hi
        · exact hi
        · exact absurd hi (by simp)
      have hT3 := seqT_go hT hp g3.but
      refine ⟨_, rfl, _, rfl, p, c, t, _, _, rfl, g3.pen, g3.cel, by omega, .inr hT3, by simpa using hne, by rw [List.length_map]; omega, fun H4 v g4 hv => ?_⟩
      obtain ⟨a, ha, rfl⟩ := List.mem_map.mp hv
      obtain ⟨j, hj, ej⟩ := List.mem_iff_getElem.mp ha
      obtain ⟨r, hr1, row⟩ := (hR.go hp (g3.but.trans g4.but)).get' (show as[j]? = some a by rw [List.getElem?_eq_getElem hj, ej])
      refine ⟨a, _, _, _, rfl, rfl, row, rfl, ?_⟩
      have e4 := g4.but l _ nl e3
      refine ⟨_, rfl, .inl ⟨rfl, _, SqL.of e4⟩, _, rfl, _, rfl, _, _, rfl, rfl, _, rfl, _, _, rfl, rfl, (by show 3 ≤ sizeLine; decide), fun b hb => ?_⟩
      generalize hX : upd H4 b _ = H5
      obtain ⟨S5, f5⟩ := alloc hb hX
      clear hX
      refine ⟨l, b, _, _, rfl, rfl, S5 _ _ e4, f5, ?_, ?_⟩
      · rw [List.length_map, ln]
        exact Nat.le_of_lt (small1000 (by simp; omega))
      · refine ⟨_, _, ns ++ [r.m, r.m - 1, r.m + 1], rfl, (((g3.trans g4).same S5).own hl0 nl hc).mono (by omega), ?_, by simp; omega⟩
        rw [upd_same, List.map_append]
        rfl
    · rintro σ H3 ⟨x3, x4, ns, rfl, g3, e3, ln⟩
      refine ⟨_, rfl, k H3 l ns (g3.mono ?_) e3⟩
      have : (5 * (if decide ((0 : Int) < ((as.map V.ref).length : Int)) = true then (1 : Int) else 0)).toNat ≤ 5 := by split <;> decide
      omega
/-! ### one asking -/
def spRight (K : PySem.W.Frag) : Sp := fun vs H Q _ => ∃ (t : Addr) (rs : List Row) (l : Str) (m : Int) (v : V) (d : PyData), vs = [.ref t, .str l, .int m, v] ∧ LogAt K H t rs ∧ (∀ r ∈ rs, r.Ok) ∧ Dp K H v d ∧ RepOk d 5 100 ∧
  ∀ H', Same H H' → Q (.bl true) H'
def ovd (d : PyData) : Option What → PyData
  | none => d
  | some x => x.d
theorem ovOr_dp {K : PySem.W.Frag} {H : Hp} {v : V} {d : PyData} (h : Dp K H v d) (o : Option What) : Dp K H (ovOr v o) (ovd d o) := by
  cases o with
  | none => exact h
  | some x => exact x.dp
theorem ovd_rep {d : PyData} (h : RepOk d 5 100) {rs : List Row} {l : Str} {m : Int} {i : Nat} (ok : ∀ r ∈ rs, r.Ok) : RepOk (ovd d (standTo rs l m i)) 5 100 := by
  cases z : standTo rs l m i with
  | none => exact h
  | some x =>
    obtain ⟨r, hr, rfl, _⟩ := standTo_mem z
    refine (What.rep ?_).mono (by decide) (by decide)
    rcases (ok r hr).wh with ⟨_, t, e, q⟩ | ⟨_, i, e, q1, q2⟩
    · exact .inr ⟨t, e, q⟩
    · exact .inl ⟨i, e, q1, q2⟩
theorem ok_right (T : Txt w K mg) : GOk P w K mg base CX0 2 T.a_right T.d_right ["_law_page", "_law_wire", "_law_time", "_law_thing"] (spRight K) := by
  have G_standing := ok_standing (P := P) (base := base) T
  have G_stands := ok_stands (P := P) (base := base) T
  refine GOk.body T.F_right sc_right (fun vs H Q E h => ?_) (fun cdv A outer s H vs Q E hr hG h => ?_)
  · obtain ⟨t, rs, l, m, v, d, rfl, _⟩ := h
    rfl
  · obtain ⟨t, rs, l, m, v, d, rfl, hL, ok, hd, rep, k⟩ := h
    have hr_standing := hr
    have hr_stands := hr
    refine ⟨_, (pss_cons (ps_set (i := 4) sc_right.nd rfl (by first | exact Or.inl rfl | exact Or.inr rfl) (pe_call G_stands hr_stands (by rfl) T.g_stands T.F_stands.kp T.b_stands .nil pass0 (pa_cons (pv 0) (pa_cons (pv 1) (pa_cons (pv 2) pa_nil)))))
  (pss_cons (ps_set (i := 5) sc_right.nd rfl (by first | exact Or.inl rfl | exact Or.inr rfl) (pv 4))
  (C8.pss_cut (ps_if (pt_cmpR op_isN (pv 4) pe_non (nomark _)) (pss_one (ps_set (i := 5) sc_right.nd rfl (by first | exact Or.inl rfl | exact Or.inr rfl) (pv 3))) pss_nil)
  (pss_cons (ps_if (PW.pt (pw_or (pt_cmpR op_ne (pe_callB (k_repr K hG hr.units) (by rfl) T.z_repr (by decide +kernel) (pa_cons (pe_call G_standing hr_standing (by rfl) T.g_standing T.F_standing.kp T.b3_standing T.v3_standing pass0 (pa_cons (pv 0) (pa_cons (pv 1) (pa_cons (pv 2) pa_nil)))) pa_nil)) (pe_callB (k_repr K hG hr.units) (by rfl) T.z_repr (by decide +kernel) (pa_cons (pv 4) pa_nil)) (nomark _)) (pw_or1 (pt_cmpR op_ne (pe_callB (k_repr K hG hr.units) (by rfl) T.z_repr (by decide +kernel) (pa_cons (pe_call G_standing hr_standing (by rfl) T.g_standing T.F_standing.kp T.b4_standing T.v4_standing pass0 (pa_cons (pv 0) (pa_cons (pv 1) (pa_cons (pv 2) (pa_cons (pv 3) pa_nil))))) pa_nil)) (pe_callB (k_repr K hG hr.units) (by rfl) T.z_repr (by decide +kernel) (pa_cons (pv 5) pa_nil)) (nomark _))))) (pss_one (ps_ret pe_bl)) pss_nil)
  (pss_one (ps_ret (pe_cmpR op_eq (pe_callB (k_repr K hG hr.units) (by rfl) T.z_repr (by decide +kernel) (pa_cons (pe_callK0 G_standing hr_standing (by rfl) T.g_standing T.F_standing.kp T.kb0_standing pass0 (pk_cons (pv 3) (pk_cons (pv 2) (pk_cons (pv 0) (pk_cons (pv 1) pk_nil))))) pa_nil)) (pe_callB (k_repr K hG hr.units) (by rfl) T.z_repr (by decide +kernel) (pa_cons (pv 5) pa_nil)) (nomark _)))))))), ?_⟩
    refine ⟨_, rfl, _, rfl, _, rfl, t, rs, l, m, rfl, hL, _, rfl, ?_⟩
    generalize hst : standTo rs l m rs.length = st
    have repN : RepOk (ovd .none st) 5 100 := hst ▸ ovd_rep (RepOk.none.mono (by decide) (by decide)) ok
    have repH : RepOk (ovd d st) 5 100 := hst ▸ ovd_rep rep ok
    refine ⟨fun σ2 H2 => σ2 = [some (.ref t), some (.str l), some (.int m), some v, some (ovOr .non st), some (ovOr v st)] ∧ H2 = H, ?_, ?_⟩
    · refine ⟨_, rfl, rfl, _, rfl, ite2 (fun z => ?_) (fun z => ?_)⟩
      · have z' : ovOr .non st = .non := of_decide_eq_true z
        cases st with
        | none => exact ⟨_, rfl, rfl, rfl⟩
        | some x => cases x <;> cases z'
      · cases st with
        | none => exact absurd (decide_eq_true rfl) z
        | some x => exact ⟨rfl, rfl⟩
    · rintro σ2 H2 ⟨rfl, rfl⟩
      have say : ∀ d : PyData, (!decide (V.str d.shown = V.str d.shown)) = false := fun d => by rw [decide_eq_true rfl]; rfl
      refine ⟨_, rfl, _, rfl, _, rfl, t, rs, l, m, _, rfl, hL, ?_⟩
      rw [hst]
      refine ⟨_, _, _, _, rfl, ovOr_dp .non st, repN, by decide, by decide, _, rfl, _, _, _, _, rfl, ovOr_dp .non st, repN, by decide, by decide, rfl, _, rfl, ?_⟩
      rw [say]
      show if false = true then _ else _
      refine ⟨_, rfl, _, rfl, _, rfl, _, rfl, t, rs, l, m, _, rfl, hL, ?_⟩
      rw [hst]
      refine ⟨_, _, _, _, rfl, ovOr_dp hd st, repH, by decide, by decide, _, rfl, _, _, _, _, rfl, ovOr_dp hd st, repH, by decide, by decide, rfl, _, rfl, ?_⟩
      rw [say]
      show if false = true then _ else _
      refine ⟨_, rfl, _, rfl, _, rfl, _, rfl, t, rs, l, m, _, rfl, hL, ?_⟩
      rw [hst]
      refine ⟨_, _, _, _, rfl, ovOr_dp hd st, repH, by decide, by decide, _, rfl, _, _, _, _, rfl, ovOr_dp hd st, repH, by decide, by decide, rfl, ?_⟩
      show Q (V.bl (decide (V.str (ovd d st).shown = V.str (ovd d st).shown))) _
      rw [decide_eq_true rfl]
      exact k _ (Same.refl _)
/-! ### the law -/
theorem ok_law (T : Txt w K mg) : GOk P w K mg base CX0 6 T.a_law T.d_law ["_law_script"] (spLaw K) := by
  have G_pen := ok_pen (P := P) (base := base) T
  have G_draw := ok_draw (P := P) (base := base) T
  have G_pick := ok_pick (P := P) (base := base) T
  have G_log := ok_log (P := P) (base := base) T
  have G_minutes := ok_minutes (P := P) (base := base) T
  have G_right := ok_right (P := P) (base := base) T
  have G_standing := ok_standing (P := P) (base := base) T
  refine GOk.body T.F_law sc_law (fun vs H Q E h => ?_) (fun cdv A outer s H vs Q E hr hG h => ?_)
  · obtain ⟨a, ns, rfl, _⟩ := h
    rfl
  · obtain ⟨a, ns, rfl, hS, hl, k⟩ := h
    have hr_log := hr.mono (show 4 ≤ 5 by decide)
    have hr_pen := hr.mono (show 1 ≤ 5 by decide)
    have hr_draw := hr_pen
    have hr_standing := hr_pen
    have hr_pick := hr.mono (show 2 ≤ 5 by decide)
    have hr_right := hr_pick
    have hr_minutes := hr.mono (show 3 ≤ 5 by decide)
    refine ⟨_, (pss_cons (ps_set (i := 1) sc_law.nd rfl (by first | exact Or.inl rfl | exact Or.inr rfl) (pe_call G_pen hr_pen (by rfl) T.g_pen T.F_pen.kp T.b_pen .nil pass0 (pa_cons (pv 0) pa_nil)))
  (pss_cons (ps_for PassesOwn.never rfl (pi_range1 (by rfl) T.z_range (pa_cons pe_int pa_nil)) (pg_name (i := 2) sc_law.nd rfl (by first | exact Or.inl rfl | exact Or.inr rfl)) (pss_cons (ps_set (i := 3) sc_law.nd rfl (by first | exact Or.inl rfl | exact Or.inr rfl) (pe_call G_log hr_log (by rfl) T.g_log T.F_log.kp T.b_log .nil pass0 (pa_cons (pv 1) (pa_cons (pe_ix (kx_list K) (pe_lst (pa_cons pe_int (pa_cons pe_int pa_nil))) (pe_callTy call_int1 (by rfl) T.z_int (by decide +kernel) (pa_cons (pe_cmpR op_eq (pe_call G_draw hr_draw (by rfl) T.g_draw T.F_draw.kp T.b_draw .nil pass0 (pa_cons (pv 1) (pa_cons pe_int pa_nil))) pe_int (nomark _)) pa_nil)) (fun _ _ => rfl)) pa_nil))))
  (pss_cons (ps_set (i := 4) sc_law.nd rfl (by first | exact Or.inl rfl | exact Or.inr rfl) (pe_callB (k_repr K hG hr.units) (by rfl) T.z_repr (by decide +kernel) (pa_cons (pv 3) pa_nil)))
  (pss_cons (ps_set (i := 5) sc_law.nd rfl (by first | exact Or.inl rfl | exact Or.inr rfl) (pe_call G_pick hr_pick (by rfl) T.g_pick T.F_pick.kp T.b_pick .nil pass0 (pa_cons (pv 1) (pa_cons (pe_lst (pa_cons pe_str (pa_cons pe_int (pa_cons (pe_tup pa_nil) (pa_cons pe_bl (pa_cons pe_int (pa_cons pe_non (pa_cons pe_str (pa_cons (pe_tup (pa_cons pe_non pa_nil)) pa_nil))))))))) pa_nil))))
  (pss_cons (ps_for PassesOwn.never rfl (k_piL K (pe_call G_minutes hr_minutes (by rfl) T.g_minutes T.F_minutes.kp T.b_minutes .nil pass0 (pa_cons (pv 1) (pa_cons (pv 3) pa_nil)))) (pg_name (i := 6) sc_law.nd rfl (by first | exact Or.inl rfl | exact Or.inr rfl)) (pss_one (ps_for PassesOwn.never rfl (k_piT K (pe_tup (pa_cons pe_str (pa_cons pe_str pa_nil)))) (pg_name (i := 7) sc_law.nd rfl (by first | exact Or.inl rfl | exact Or.inr rfl)) (pss_one (ps_if (pt_not (pt_val (pe_callG G_right hr_right hG (by rfl) T.g_right T.F_right.kp T.b_right .nil pass0 (pa_cons (pv 3) (pa_cons (pv 7) (pa_cons (pv 6) (pa_cons (pv 5) pa_nil))))))) (pss_one (ps_ret pe_bl)) pss_nil)))))
  (pss_one (ps_if (pt_cmpR op_ne (pe_callB (k_repr K hG hr.units) (by rfl) T.z_repr (by decide +kernel) (pa_cons (pv 3) pa_nil)) (pv 4) (nomark _)) (pss_one (ps_ret pe_bl)) pss_nil)))))))
  (pss_one (ps_ret (pe_cmpR op_isN (pe_call G_standing hr_standing (by rfl) T.g_standing T.F_standing.kp T.b3_standing T.v3_standing pass0 (pa_cons (pe_tup pa_nil) (pa_cons pe_str (pa_cons pe_int pa_nil)))) pe_non (nomark _)))))), ?_⟩
    refine ⟨_, rfl, a, ns, rfl, hS, hl, fun H1 p c S1 hp0 hp hc => ?_⟩
    refine ⟨3, rfl, by decide, by decide, ?_⟩
    refine for_it walk_range (fun i σ H' => ∃ (x2 x3 x4 x5 x6 x7 : Option V), σ = [some (.ref a), some (.ref p), x2, x3, x4, x5, x6, x7] ∧ PenAt H' p c (1200 * i) ∧ Cells K H' p c)
      ⟨none, none, none, none, none, none, rfl, hp, hc⟩ (fun _ _ _ _ _ => trivial) ?_ ?_
    · rintro i x σ _ H2 hi ⟨x2, x3, x4, x5, x6, x7, rfl, hp2, hc2⟩ ⟨rfl, rfl⟩
      have hi4 : i < 3 := hi
      refine ⟨_, rfl, (by show 2 ≤ sizeLine; decide), fun l hl0 => ?_⟩
      generalize hX : upd H2 l _ = H3
      obtain ⟨S3, f3⟩ := alloc hl0 hX
      have g3 := (Go.refl hp2 hc2).same S3
      have nl := Ne.symm ((Go.refl hp2 hc2).ne_new hl0)
      clear hX
      refine ⟨_, rfl, p, c, _, 16, rfl, g3.pen, g3.cel, by omega, by decide, by decide, fun H4 r g4 r0 r1 => ?_⟩
      refine ⟨rfl, .inr ⟨_, rfl, ?_⟩⟩
      obtain ⟨mst, emst, m4, m40⟩ : ∃ mst : Int, atI [V.int 12, V.int 40] (if decide (V.int r = V.int 0) = true then 1 else 0) = some (.int mst) ∧ 4 ≤ mst ∧ mst ≤ 40 := by
        by_cases q : V.int r = V.int 0
        · rw [if_pos (decide_eq_true q)]
          exact ⟨40, rfl, by decide, by decide⟩
        · rw [if_neg (fun y => q (of_decide_eq_true y))]
          exact ⟨12, rfl, by decide, by decide⟩
      refine ⟨l, _, _, _, rfl, rfl, g4.but.seqL nl (SqL.of f3), emst, ?_⟩
      refine ⟨p, c, _, mst, rfl, g4.pen, g4.cel, by omega, m4, m40, fun H5 t rs g5 ht hL hlen hok => ?_⟩
      -- kept = repr(page)
      have rep := log_rep hok (Nat.le_succ_of_le hlen)
      refine ⟨_, rfl, _, _, _, _, rfl, hL.dp, rep, by decide, by decide, ?_⟩
      -- a thing to be told where none stands
      refine ⟨_, rfl, (by show 0 ≤ sizeLine; decide), fun u1 hu1 => ?_⟩
      generalize hX : upd H5 u1 _ = H6
      obtain ⟨S6, f6⟩ := alloc hu1 hX
      clear hX
      refine ⟨(by show 1 ≤ sizeLine; decide), fun u2 hu2 => ?_⟩
      generalize hX : upd H6 u2 _ = H7
      obtain ⟨S7, f7⟩ := alloc hu2 hX
      clear hX
      refine ⟨(by show 8 ≤ sizeLine; decide), fun u3 hu3 => ?_⟩
      generalize hX : upd H7 u3 _ = H8
      obtain ⟨S8, f8⟩ := alloc hu3 hX
      clear hX
      have g8 := g5.same (S6.trans (S7.trans S8))
      have g7 := g5.same (S6.trans S7)
      refine ⟨p, c, u3, _, _, rfl, g8.pen, g8.cel, by omega, .inl ⟨SqL.of f8, Ne.symm (g7.ne_new hu3)⟩, by simp, (by show 8 ≤ 1000000; decide), fun H9 v g9 hv => ?_⟩
      have hL9 := (hL.same (S6.trans (S7.trans S8))).go g8.pen g9.but
      obtain ⟨d, hd, repd⟩ : ∃ d, (∀ H', (∀ a xs, SqT K H9 a xs → SqT K H' a xs) → Dp K H' v d) ∧ RepOk d 5 100 := by
        have z : v = V.str (Str.ofString "-") ∨ v = V.int 7 ∨ v = V.ref u1 ∨ v = V.bl false ∨ v = V.int 0 ∨ v = V.non ∨ v = V.str (Str.ofString "port") ∨ v = V.ref u2 := by simpa using hv
        have q1 : SqT K H9 u1 [] := seqT_go (SqT.of (S8 _ _ (S7 _ _ f6))) g8.pen g9.but
        have q2 : SqT K H9 u2 [.non] := seqT_go (SqT.of (S8 _ _ f7)) g8.pen g9.but
        rcases z with z | z | z | z | z | z | z | z <;> subst z
        · exact ⟨_, fun _ _ => .str _, (RepOk.tok (k := 8) ⟨by decide +kernel, by decide +kernel⟩).mono (by decide) (by decide)⟩
        · exact ⟨_, fun _ _ => .int _, (RepOk.int (by decide)).mono (by decide) (by decide)⟩
        · exact ⟨.tuple [], fun _ q => .tup (q _ _ q1) .nil, (RepOk.tuple (ds := []) (k := 0) (n := 0) fun x hx => by simp at hx).mono (by decide) (by decide)⟩
        · exact ⟨_, fun _ _ => .bl _, (RepOk.bool false).mono (by decide) (by decide)⟩
        · exact ⟨_, fun _ _ => .int _, (RepOk.int (by decide)).mono (by decide) (by decide)⟩
        · exact ⟨_, fun _ _ => .non, RepOk.none.mono (by decide) (by decide)⟩
        · exact ⟨_, fun _ _ => .str _, (RepOk.tok (k := 8) ⟨by decide +kernel, by decide +kernel⟩).mono (by decide) (by decide)⟩
        · refine ⟨.tuple [.none], fun _ q => .tup (q _ _ q2) (.cons .non .nil), (RepOk.tuple (k := 0) (n := 0) fun x hx => ?_).mono (by decide) (by decide)⟩
          have : x = .none := by simpa using hx
          subst this
          exact RepOk.none
      -- the minutes
      refine ⟨_, rfl, _, rfl, p, c, t, _, rs, rfl, g9.pen, g9.cel, by omega, hL9, by omega, fun H10 lm nm g10 f10 => ?_⟩
      have hL10 := hL9.go g9.pen g10.but
      refine ⟨lm, rfl, ⟨_, SqL.of f10⟩, ?_⟩
      refine for_it (walk_list (xs := nm.map V.int)) (fun j σ H' => ∃ (x6 x7 : Option V), σ = [some (.ref a), some (.ref p), some (.int (0 + (i : Nat))), some (.ref t), some (.str (PyData.tuple (rs.map Row.d)).shown), some v, x6, x7] ∧ Same H10 H')
        ⟨x6, x7, rfl, Same.refl _⟩ (fun j σ H' _ ⟨_, _, _, q⟩ => SqL.of (q _ _ f10)) ?_ ?_
      · rintro j x σ _ H11 hj ⟨y6, y7, rfl, S11⟩ ⟨rfl, hx⟩
        obtain ⟨m, rfl⟩ : ∃ m : Int, x = V.int m := by
          obtain ⟨m, _, e⟩ := List.mem_map.mp (List.mem_of_getElem? hx)
          exact ⟨m, e.symm⟩
        refine ⟨(by show 2 ≤ sizeLine; decide), fun u hu => ?_⟩
        generalize hX : upd H11 u _ = H12
        obtain ⟨S12, f12⟩ := alloc hu hX
        clear hX
        refine ⟨u, rfl, ⟨_, SqT.of f12⟩, ?_⟩
        refine for_it (walk_tup (xs := [V.str "port", V.str "star"])) (fun j σ H' => ∃ (x7 : Option V), σ = [some (.ref a), some (.ref p), some (.int (0 + (i : Nat))), some (.ref t), some (.str (PyData.tuple (rs.map Row.d)).shown), some v, some (.int m), x7] ∧ Same H12 H')
          ⟨y7, rfl, Same.refl _⟩ (fun j σ H' _ ⟨_, _, q⟩ => SqT.of (q _ _ f12)) ?_ ?_
        · rintro j2 x σ _ H13 hj2 ⟨z7, rfl, S13⟩ ⟨rfl, hx2⟩
          obtain ⟨l2, rfl⟩ : ∃ l2 : Str, x = V.str l2 := by
            have z : x = V.str "port" ∨ x = V.str "star" := by simpa using List.mem_of_getElem? hx2
            rcases z with z | z <;> exact ⟨_, z⟩
          have sA := S11.trans (S12.trans S13)
          refine ⟨_, rfl, _, rfl, _, rfl, _, rfl, t, rs, l2, m, v, d, rfl, (hL10.same sA), hok, hd _ (fun _ _ q => same_seqT sA (seqT_go q g9.pen g10.but)), repd, fun H14 S14 => ?_⟩
          refine ⟨_, rfl, ?_⟩
          show if false = true then _ else _
          exact ⟨some (.str l2), rfl, S13.trans S14⟩
        · rintro σ H13 ⟨z7, rfl, S13⟩
          exact ⟨_, _, rfl, S11.trans (S12.trans S13)⟩
      · rintro σ H11 ⟨y6, y7, rfl, S11⟩
        refine ⟨_, rfl, _, _, _, _, rfl, (hL10.same S11).dp, rep, by decide, by decide, _, rfl, rfl, _, rfl, ?_⟩
        show if (!decide (V.str (PyData.tuple (rs.map Row.d)).shown = V.str (PyData.tuple (rs.map Row.d)).shown)) = true then _ else _
        rw [decide_eq_true rfl]
        show if false = true then _ else _
        have G11 := ((((g3.trans (g4.trans g5)).same (S6.trans (S7.trans S8))).trans g9).trans g10).same S11
        exact ⟨_, _, _, _, _, _, rfl, G11.pen.mono (by omega), G11.cel⟩
    · rintro σ H2 ⟨x2, x3, x4, x5, x6, x7, rfl, hp2, hc2⟩
      refine ⟨(by show 0 ≤ sizeLine; decide), fun t ht => ?_⟩
      generalize hX : upd H2 t _ = H3
      obtain ⟨S3, f3⟩ := alloc ht hX
      clear hX
      exact ⟨t, [], "port", 5, _, rfl, ⟨[], SqT.of f3, .nil⟩, rfl, k _⟩
end
theorem all_mk {l : PySem.W.OpenLaw} {w : World} {K : PySem.W.Frag} {h : Heap} {mg : Str → Option Value} {fa : Addr} (X : K.In h) (G : h.Ns mainGlobals mg) (hfa : mg "law" = some (.ref fa))
    {f0 T0 : Addr} {tc0 : Value} {td0 : Option Addr} {its0 : Array Value} {tn0 : Nat} {tsl0 : Array (Option Value)} {od0 an0 : Option Addr} {sl0 : Array (Option Value)} {oc0 kV0 dc0 pm0 cd0 ct0 : Value} (a0 : PySem.W.nsIn K mainGlobals "standing" = some (some (.ref f0))) (l0 : K.lookup f0 = some ⟨oc0, od0, .func (PySem.W.fnOf "standing" "standing" (defArgs s_standing) (defBody s_standing) (defScope s_standing) (.ref T0) kV0 dc0 pm0 an0 cd0 ct0), sl0⟩) (c0 : PySem.W.codeIn K cd0 "standing" = true) (k0 : PySem.W.keepIn K (.ref f0) = true) (lt0 : K.lookup T0 = some ⟨tc0, td0, .seq its0 tn0, tsl0⟩) (vt0 : Vals [V.non] its0.toList)
    {f1 : Addr} {od1 an1 : Option Addr} {sl1 : Array (Option Value)} {oc1 kV1 dc1 pm1 cd1 ct1 : Value} (a1 : PySem.W.nsIn K mainGlobals "_law_pen" = some (some (.ref f1))) (l1 : K.lookup f1 = some ⟨oc1, od1, .func (PySem.W.fnOf "_law_pen" "_law_pen" (defArgs s_pen) (defBody s_pen) (defScope s_pen) .none kV1 dc1 pm1 an1 cd1 ct1), sl1⟩) (c1 : PySem.W.codeIn K cd1 "_law_pen" = true) (k1 : PySem.W.keepIn K (.ref f1) = true)
    {f2 : Addr} {od2 an2 : Option Addr} {sl2 : Array (Option Value)} {oc2 kV2 dc2 pm2 cd2 ct2 : Value} (a2 : PySem.W.nsIn K mainGlobals "_law_draw" = some (some (.ref f2))) (l2 : K.lookup f2 = some ⟨oc2, od2, .func (PySem.W.fnOf "_law_draw" "_law_draw" (defArgs s_draw) (defBody s_draw) (defScope s_draw) .none kV2 dc2 pm2 an2 cd2 ct2), sl2⟩) (c2 : PySem.W.codeIn K cd2 "_law_draw" = true) (k2 : PySem.W.keepIn K (.ref f2) = true)
    {f3 : Addr} {od3 an3 : Option Addr} {sl3 : Array (Option Value)} {oc3 kV3 dc3 pm3 cd3 ct3 : Value} (a3 : PySem.W.nsIn K mainGlobals "_law_pick" = some (some (.ref f3))) (l3 : K.lookup f3 = some ⟨oc3, od3, .func (PySem.W.fnOf "_law_pick" "_law_pick" (defArgs s_pick) (defBody s_pick) (defScope s_pick) .none kV3 dc3 pm3 an3 cd3 ct3), sl3⟩) (c3 : PySem.W.codeIn K cd3 "_law_pick" = true) (k3 : PySem.W.keepIn K (.ref f3) = true)
    {f4 : Addr} {od4 an4 : Option Addr} {sl4 : Array (Option Value)} {oc4 kV4 dc4 pm4 cd4 ct4 : Value} (a4 : PySem.W.nsIn K mainGlobals "_law_word" = some (some (.ref f4))) (l4 : K.lookup f4 = some ⟨oc4, od4, .func (PySem.W.fnOf "_law_word" "_law_word" (defArgs s_word) (defBody s_word) (defScope s_word) .none kV4 dc4 pm4 an4 cd4 ct4), sl4⟩) (c4 : PySem.W.codeIn K cd4 "_law_word" = true) (k4 : PySem.W.keepIn K (.ref f4) = true)
    {f5 : Addr} {od5 an5 : Option Addr} {sl5 : Array (Option Value)} {oc5 kV5 dc5 pm5 cd5 ct5 : Value} (a5 : PySem.W.nsIn K mainGlobals "_law_log" = some (some (.ref f5))) (l5 : K.lookup f5 = some ⟨oc5, od5, .func (PySem.W.fnOf "_law_log" "_law_log" (defArgs s_log) (defBody s_log) (defScope s_log) .none kV5 dc5 pm5 an5 cd5 ct5), sl5⟩) (c5 : PySem.W.codeIn K cd5 "_law_log" = true) (k5 : PySem.W.keepIn K (.ref f5) = true)
    {f6 : Addr} {od6 an6 : Option Addr} {sl6 : Array (Option Value)} {oc6 kV6 dc6 pm6 cd6 ct6 : Value} (a6 : PySem.W.nsIn K mainGlobals "_law_stands" = some (some (.ref f6))) (l6 : K.lookup f6 = some ⟨oc6, od6, .func (PySem.W.fnOf "_law_stands" "_law_stands" (defArgs s_stands) (defBody s_stands) (defScope s_stands) .none kV6 dc6 pm6 an6 cd6 ct6), sl6⟩) (c6 : PySem.W.codeIn K cd6 "_law_stands" = true) (k6 : PySem.W.keepIn K (.ref f6) = true)
    {f7 : Addr} {od7 an7 : Option Addr} {sl7 : Array (Option Value)} {oc7 kV7 dc7 pm7 cd7 ct7 : Value} (a7 : PySem.W.nsIn K mainGlobals "_law_minutes" = some (some (.ref f7))) (l7 : K.lookup f7 = some ⟨oc7, od7, .func (PySem.W.fnOf "_law_minutes" "_law_minutes" (defArgs s_minutes) (defBody s_minutes) (defScope s_minutes) .none kV7 dc7 pm7 an7 cd7 ct7), sl7⟩) (c7 : PySem.W.codeIn K cd7 "_law_minutes" = true) (k7 : PySem.W.keepIn K (.ref f7) = true)
    {f8 : Addr} {od8 an8 : Option Addr} {sl8 : Array (Option Value)} {oc8 kV8 dc8 pm8 cd8 ct8 : Value} (a8 : PySem.W.nsIn K mainGlobals "_law_right" = some (some (.ref f8))) (l8 : K.lookup f8 = some ⟨oc8, od8, .func (PySem.W.fnOf "_law_right" "_law_right" (defArgs s_right) (defBody s_right) (defScope s_right) .none kV8 dc8 pm8 an8 cd8 ct8), sl8⟩) (c8 : PySem.W.codeIn K cd8 "_law_right" = true) (k8 : PySem.W.keepIn K (.ref f8) = true)
    {f9 : Addr} {od9 an9 : Option Addr} {sl9 : Array (Option Value)} {oc9 kV9 dc9 pm9 cd9 ct9 : Value} (a9 : PySem.W.nsIn K mainGlobals "law" = some (some (.ref f9))) (l9 : K.lookup f9 = some ⟨oc9, od9, .func (PySem.W.fnOf "law" "law" (defArgs s_law) (defBody s_law) (defScope s_law) .none kV9 dc9 pm9 an9 cd9 ct9), sl9⟩) (c9 : PySem.W.codeIn K cd9 "law" = true) (k9 : PySem.W.keepIn K (.ref f9) = true)
    (z_abs : PySem.W.nsIn K mainGlobals "abs" = some none)
    (z_int : PySem.W.nsIn K mainGlobals "int" = some none)
    (z_len : PySem.W.nsIn K mainGlobals "len" = some none)
    (z_min : PySem.W.nsIn K mainGlobals "min" = some none)
    (z_range : PySem.W.nsIn K mainGlobals "range" = some none)
    (z_repr : PySem.W.nsIn K mainGlobals "repr" = some none)
    (z_tuple : PySem.W.nsIn K mainGlobals "tuple" = some none) :
    ∃ fd : FuncData, (∀ (s : Shared) (v : Value), BindsTo s fd ⟨[v], []⟩ [("_law_script", v)]) ∧ ∀ base : Heap, K.In base → base.Ns mainGlobals mg → GOk l.prog w K mg base CX0 6 fa fd ["_law_script"] (spLaw K) := by
  have e := hfa.symm.trans (PySem.W.mg_of X G a9)
  cases e
  have F0 := FunD_mk (x := "standing") (params := defArgs s_standing) (body := defBody s_standing) (scope := defScope s_standing) (dvs := [V.non]) l0 c0 k0 lt0 vt0 (by simp)
  obtain ⟨ds3_0, v3_0, b3_0⟩ := F0.binds1 (ps := ["log", "line", "minute", "none"]) 3 0 (by simp) (by simp) (fun T kV doc pm an cdv ct us its hu hi => match us, hu, its, hi with | [_, _, _], _, [_], _ => ⟨_, rfl, rfl⟩)
  obtain ⟨ds4_0, v4_0, b4_0⟩ := F0.binds1 (ps := ["log", "line", "minute", "none"]) 4 1 (by simp) (by simp) (fun T kV doc pm an cdv ct us its hu hi => match us, hu, its, hi with | [_, _, _, _], _, [_], _ => ⟨_, rfl, rfl⟩)
  have F1 := fun_mk (st := s_pen) l1 c1 k1
  have F2 := fun_mk (st := s_draw) l2 c2 k2
  have F3 := fun_mk (st := s_pick) l3 c3 k3
  have F4 := fun_mk (st := s_word) l4 c4 k4
  have F5 := fun_mk (st := s_log) l5 c5 k5
  have F6 := fun_mk (st := s_stands) l6 c6 k6
  have F7 := fun_mk (st := s_minutes) l7 c7 k7
  have F8 := fun_mk (st := s_right) l8 c8 k8
  have F9 := fun_mk (st := s_law) l9 c9 k9
  obtain ⟨it0_0, kb0_0⟩ := FunD_kb F0 (ps := ["log", "line", "minute", "none"]) (by simp) ["none", "minute", "log", "line"] (fun us its ws => match us, its, ws with | [], [_], [x0, x1, x2, x3] => [x2, x3, x1, x0] | _, _, _ => []) (fun us its ws => match us, its, ws with | [], [_], [x0, x1, x2, x3] => [x2, x3, x1, x0] | _, _, _ => [])
    (fun r1 r2 r3 => by (cases r1 with | nil => (cases r2 with | nil => exact .nil | cons e0 r2 => (cases r2 with | nil => (cases r3 with | nil => exact .nil | cons q0 r3 => (cases r3 with | nil => exact .nil | cons q1 r3 => (cases r3 with | nil => exact .nil | cons q2 r3 => (cases r3 with | nil => exact .nil | cons q3 r3 => (cases r3 with | nil => exact .cons q2 (.cons q3 (.cons q1 (.cons q0 (.nil)))) | cons _ _ => exact .nil))))) | cons _ _ => exact .nil)) | cons _ _ => exact .nil)) (fun T kV doc pm an cdv ct us its ws hi hl => match us, its, ws, hl with | [], [_], [_, _, _, _], _ => ⟨_, rfl, rfl⟩)
  let T : Txt w K mg := {
    a_standing := f0, d_standing := _, F_standing := F0, ds3_standing := ds3_0, v3_standing := v3_0, b3_standing := b3_0, ds4_standing := ds4_0, v4_standing := v4_0, b4_standing := b4_0, g_standing := PySem.W.mg_of X G a0,
    a_pen := f1, d_pen := _, F_pen := F1, b_pen := F1.binds (ps := ["_law_script"]) (fun _ _ _ _ _ _ us hl => match us, hl with | [_], _ => rfl), g_pen := PySem.W.mg_of X G a1,
    a_draw := f2, d_draw := _, F_draw := F2, b_draw := F2.binds (ps := ["_law_pen_here", "_law_many"]) (fun _ _ _ _ _ _ us hl => match us, hl with | [_, _], _ => rfl), g_draw := PySem.W.mg_of X G a2,
    a_pick := f3, d_pick := _, F_pick := F3, b_pick := F3.binds (ps := ["_law_pen_here", "_law_some"]) (fun _ _ _ _ _ _ us hl => match us, hl with | [_, _], _ => rfl), g_pick := PySem.W.mg_of X G a3,
    a_word := f4, d_word := _, F_word := F4, b_word := F4.binds (ps := ["_law_pen_here"]) (fun _ _ _ _ _ _ us hl => match us, hl with | [_], _ => rfl), g_word := PySem.W.mg_of X G a4,
    a_log := f5, d_log := _, F_log := F5, b_log := F5.binds (ps := ["_law_pen_here", "_law_most"]) (fun _ _ _ _ _ _ us hl => match us, hl with | [_, _], _ => rfl), g_log := PySem.W.mg_of X G a5,
    a_stands := f6, d_stands := _, F_stands := F6, b_stands := F6.binds (ps := ["_law_page", "_law_wire", "_law_time"]) (fun _ _ _ _ _ _ us hl => match us, hl with | [_, _, _], _ => rfl), g_stands := PySem.W.mg_of X G a6,
    a_minutes := f7, d_minutes := _, F_minutes := F7, b_minutes := F7.binds (ps := ["_law_pen_here", "_law_page"]) (fun _ _ _ _ _ _ us hl => match us, hl with | [_, _], _ => rfl), g_minutes := PySem.W.mg_of X G a7,
    a_right := f8, d_right := _, F_right := F8, b_right := F8.binds (ps := ["_law_page", "_law_wire", "_law_time", "_law_thing"]) (fun _ _ _ _ _ _ us hl => match us, hl with | [_, _, _, _], _ => rfl), g_right := PySem.W.mg_of X G a8,
    a_law := fa, d_law := _, F_law := F9, b_law := F9.binds (ps := ["_law_script"]) (fun _ _ _ _ _ _ us hl => match us, hl with | [_], _ => rfl), g_law := PySem.W.mg_of X G a9,
    it0_standing := it0_0, kb0_standing := kb0_0,
    z_abs := PySem.W.mg_none_of X G z_abs,
    z_int := PySem.W.mg_none_of X G z_int,
    z_len := PySem.W.mg_none_of X G z_len,
    z_min := PySem.W.mg_none_of X G z_min,
    z_range := PySem.W.mg_none_of X G z_range,
    z_repr := PySem.W.mg_none_of X G z_repr,
    z_tuple := PySem.W.mg_none_of X G z_tuple }
  exact ⟨PySem.W.fnOf "law" "law" (defArgs s_law) (defBody s_law) (defScope s_law) .none kV9 dc9 pm9 an9 cd9 ct9, fun s v => .of_eq rfl, fun base _ _ => ok_law T⟩
end RO
open PySem PySem.W PyProof.Rows in
set_option maxRecDepth 100000 in
set_option maxHeartbeats 0 in
theorem PySem.Challenge.cw_ringorders_k08_what_stands_holds : PySem.Challenge.rw_ringorders_k08_what_stands.Holds := by
  w_on; o_law; k_head; (case hw => w_witness2)
  k_fill
  refine RO.walk_G (l := PySem.Challenge.rw_ringorders_k08_what_stands) (n := 63) (k := 6) (x := "_law_script") (sp := RO.spLaw) rfl (by decide) rfl ⟨rfl, by decide, by decide⟩ (fun w h Y => PySem.W.kIn_of Y) ?F RO.law_in
  case F =>
    intro w mg fa h KX G hmg
    refine' RO.all_mk KX G hmg ?a0 ?l0 ?c0 ?k0 ?lt0 ?vt0 ?a1 ?l1 ?c1 ?k1 ?a2 ?l2 ?c2 ?k2 ?a3 ?l3 ?c3 ?k3 ?a4 ?l4 ?c4 ?k4 ?a5 ?l5 ?c5 ?k5 ?a6 ?l6 ?c6 ?k6 ?a7 ?l7 ?c7 ?k7 ?a8 ?l8 ?c8 ?k8 ?a9 ?l9 ?c9 ?k9 ?z_abs ?z_int ?z_len ?z_min ?z_range ?z_repr ?z_tuple
    (case a0 => k_is)
    (case l0 => k_is)
    (case c0 => k_is)
    (case k0 => k_is)
    (case lt0 => k_is)
    (case vt0 => exact .cons rfl (.nil))
    (case a1 => k_is)
    (case l1 => k_is)
    (case c1 => k_is)
    (case k1 => k_is)
    (case a2 => k_is)
    (case l2 => k_is)
    (case c2 => k_is)
    (case k2 => k_is)
    (case a3 => k_is)
    (case l3 => k_is)
    (case c3 => k_is)
    (case k3 => k_is)
    (case a4 => k_is)
    (case l4 => k_is)
    (case c4 => k_is)
    (case k4 => k_is)
    (case a5 => k_is)
    (case l5 => k_is)
    (case c5 => k_is)
    (case k5 => k_is)
    (case a6 => k_is)
    (case l6 => k_is)
    (case c6 => k_is)
    (case k6 => k_is)
    (case a7 => k_is)
    (case l7 => k_is)
    (case c7 => k_is)
    (case k7 => k_is)
    (case a8 => k_is)
    (case l8 => k_is)
    (case c8 => k_is)
    (case k8 => k_is)
    (case a9 => k_is)
    (case l9 => k_is)
    (case c9 => k_is)
    (case k9 => k_is)
    (case z_abs => k_is)
    (case z_int => k_is)
    (case z_len => k_is)
    (case z_min => k_is)
    (case z_range => k_is)
    (case z_repr => k_is)
    (case z_tuple => k_is)
