import PyProof.Rows.All
import Wide.All
import OpenK.AllK
import Wide.FinOn
import HandS.ForMost
import HandS.AnyAll
import HandS.IsInst
import HandS.Deep
import HandS.TupAny
import HandS.Flow
import HandS.EndTab
import HandS.Defaults
import PyProof.ReprReads
import PyProof.ReprRoads
import PyProof.GenCompD
import HandS.GenList
import HandS.Conv
import HandS.Style
import PyProof.ReprLen
import PyProof.Rows.RegStrFacts
import HandS.DictTup
import HandS.SortKw
import HandS.Zip
import KE.SortData
import KE.KDictSum
import KE.DataCmp
import KE.DataMinMax
import KE.KRevSl
import PyProof.StrOps2
import HandS.DictComp
import HandS.Lambda
import HandS.Wide
import HandS.Comp
import KE.GoesEnum
import HandS.Iter
import HandS.Strs
import KE.DataFind
import KE.KDictCopyH
import HandS.ExcInit
import HandS.ExcIs
import HandS.ExcField
import KE.KExcIs
import PyProof.Rows.ReprOcc
import PyProof.ReprText
import PySem.Challenge.RW_marginwords_k56_falling_rows
set_option Elab.async false
set_option linter.all false
set_option maxRecDepth 100000
set_option maxHeartbeats 2000000
namespace Mw
open PySem PySem.Spec PyProof.Rows L2
/-! ### a def of the top: its function object, its code object -/
structure Def (K : PySem.W.Frag) (x : Str) (st : Stmt) (f c : Addr) (fd : FuncData) : Prop where
  ex : ∃ (oc : Value) (od : Option Addr) (kV doc pm : Value) (an : Option Addr) (ct : Value) (osl : Array (Option Value)),
    fd = PySem.W.fnOf x x (defArgs st) (defBody st) (defScope st) .none kV doc pm an (.ref c) ct ∧
      K.lookup f = some ⟨oc, od, .func fd, osl⟩ ∧ PySem.W.codeIn K (.ref c) x = true
  kp : PySem.W.keepIn K (.ref f) = true
theorem Def.mk' {K : PySem.W.Frag} {x : Str} {st : Stmt} {f c : Addr} {oc : Value} {od an : Option Addr} {osl : Array (Option Value)} {kV doc pm ct : Value}
    (l : K.lookup f = some ⟨oc, od, .func (PySem.W.fnOf x x (defArgs st) (defBody st) (defScope st) .none kV doc pm an (.ref c) ct), osl⟩)
    (cd : PySem.W.codeIn K (.ref c) x = true) (kp : PySem.W.keepIn K (.ref f) = true) :
    Def K x st f c (PySem.W.fnOf x x (defArgs st) (defBody st) (defScope st) .none kV doc pm an (.ref c) ct) :=
  ⟨⟨oc, od, kV, doc, pm, an, ct, osl, rfl, l, cd⟩, kp⟩
section
variable {P : Program} {w : World} {K : PySem.W.Frag} {mg : Str → Option Value} {base : Heap} {x : Str} {st : Stmt} {f c : Addr} {fd : FuncData} {N ps : List Str} {k : Nat} {sp : Sp}
/-- the context in which a def's body runs -/
abbrev Bx (P : Program) (w : World) (K : PySem.W.Frag) (mg : Str → Option Value) (base : Heap) (N : List Str) (x : Str) (st : Stmt) (f c : Addr) (A : Around) (outer : List Env) (s : Shared) (H : Hp) (E : XK) : Cx :=
  (cxOf CX0 P w K mg base N x (defScope st) f (.ref c) A outer s H E).nox
theorem Def.ok (D : Def K x st f c fd) (S : FnScope N ps (defScope st)) (len : ∀ vs H Q E, sp vs H Q E → vs.length = ps.length)
    (body : ∀ (A : Around) (outer : List Env) (s : Shared) (H : Hp) (vs : List V) (Q : VK) (E : XK),
      Room k (A.deeper (envOfC x (defScope st) s.heap.objs.size f (.ref c))) → sp vs H Q E →
      ∃ t, PSs (Bx P w K mg base N x st f c A outer s H E) (defBody st) t ∧ t { nx := fun _ H' => Q .non H', rt := Q } (start N vs) H) :
    FnOk P w K mg base CX0 (k + 1) f fd ps sp := by
  obtain ⟨oc, od, kV, doc, pm, an, ct, osl, rfl, lk, hcd⟩ := D.ex
  refine fn_of lk hcd S len fun A outer s H vs Q E room hs => ?_
  obtain ⟨t, h1, h2⟩ := body A outer s H vs Q E room hs
  exact ⟨t, PSs.nox h1, h2⟩
theorem Def.binds (D : Def K x st f c fd)
    (h : ∀ (kV doc pm : Value) (an : Option Addr) (ct : Value) (us : List Value), us.length = ps.length →
      bindArgs (PySem.W.fnOf x x (defArgs st) (defBody st) (defScope st) .none kV doc pm an (.ref c) ct) ⟨us, []⟩ = pure (ps.zip us)) : Binds K fd ps [] := by
  obtain ⟨oc, od, kV, doc, pm, an, ct, osl, rfl, lk, hcd⟩ := D.ex
  exact Binds.all (h kV doc pm an ct)
/-! ### a promise where nothing is being shown (no repr under way) -/
structure FnG (P : Program) (w : World) (K : PySem.W.Frag) (mg : Str → Option Value) (base : Heap) (k : Nat) (f : Addr) (fd : FuncData) (ps : List Str) (sp : Sp) : Prop where
  len : ∀ vs H Q E, sp vs H Q E → vs.length = ps.length
  run : ∀ (A : Around) (outer : List Env) (s : Shared) (H : Hp) (args : Args) (us : List Value) (vs : List V) (Q : VK) (E : XK), Room k A → A.guards = some [] →
    Env0 P w K mg base A outer s H → BindsTo s fd args (ps.zip us) → Vals vs us → sp vs H Q E → codeAny (model P w) A (.call (.ref f) args) (CR CX0 outer P w H s Q E) s
theorem Def.okG (D : Def K x st f c fd) (S : FnScope N ps (defScope st)) (len : ∀ vs H Q E, sp vs H Q E → vs.length = ps.length)
    (body : ∀ (A : Around) (outer : List Env) (s : Shared) (H : Hp) (vs : List V) (Q : VK) (E : XK),
      Room k (A.deeper (envOfC x (defScope st) s.heap.objs.size f (.ref c))) → A.guards = some [] → sp vs H Q E →
      ∃ t, PSs (Bx P w K mg base N x st f c A outer s H E) (defBody st) t ∧ t { nx := fun _ H' => Q .non H', rt := Q } (start N vs) H) :
    FnG P w K mg base (k + 1) f fd ps sp := by
  obtain ⟨oc, od, kV, doc, pm, an, ct, osl, rfl, lk, hcd⟩ := D.ex
  refine ⟨len, fun A outer s H args us vs Q E hr hgu e0 hb r hs => ?_⟩
  have stay : ∀ b o, base.get? b = some o → s.heap.get? b = some o := fun b o e => (e0.bs b o e).1
  have KX : K.In s.heap := e0.mod.kin.keeps stay
  have lim : s.heap.NoLimit := e0.mod.nolimit.keeps stay
  refine codeAny_call_function hr.depth (KX _ _ lk) rfl S.co S.gen rfl (PySem.W.codeRec_of KX hcd) (hb _ _ _ _ ?_)
  refine wpAny_newFunctionEnv_cells S.kind (fun y hy => ?_) fun env he s1 ic => ?_
  · have hy1 : y.1 ∈ ps := (List.of_mem_zip (show (y.1, y.2) ∈ ps.zip us from hy)).1
    rcases S.par y.1 hy1 with q | q
    · exact Or.inl q
    · exact Or.inr ⟨q, PySem.W.cellsFrom_some _ _ _ (Or.inl q)⟩
  subst he
  refine ⟨lim.keeps ic.toInCall.keep, codeAny_func ?_⟩
  obtain ⟨t, ht, hq⟩ := body A outer s H vs Q E (hr.deeper _) hgu hs
  have I := inv_start (CX := CX0) (E := E) S hr.hd e0 (len _ _ _ _ hs) r ic
  refine wpAny_mono ((PSs.nox ht).run [] s1 (start N vs) H _ I hq) (fun fl s2 h2 => ?_) fun _ _ z => z
  cases fl with
  | ret u =>
    obtain ⟨v, _, H2, J, rv, q⟩ := h2
    exact ⟨v, H2, J.os, J.bare, J.base, J.hok, rv, q⟩
  | next =>
    obtain ⟨_, H2, J, q⟩ := h2
    exact ⟨V.non, H2, J.os, J.bare, J.base, J.hok, rfl, q⟩
  | brk => exact (let ⟨_, _, _, q⟩ := h2; False.elim q)
  | cont => exact (let ⟨_, _, _, q⟩ := h2; False.elim q)
end
/-! ### repr of data -/
section
variable {X : Cx}
def rRepr (K : PySem.W.Frag) : List V → Hp → VK → Prop := fun xs H Q => ∃ (x : V) (d : PyData), xs = [x] ∧ Dp K H x d ∧ d.showable = true ∧ d.canLay0 = true ∧ d.depth ≤ 32 ∧ d.shown.length ≤ 16000000 ∧ Q (.str d.shown) H
theorem call_repr (hg : X.A.guards = some []) (hu : X.A.units + 64 < cLine) : CallR X (.builtin "repr") (rRepr X.K) := by
  intro pins s σ H xs us Q I r h
  obtain ⟨x, d, rfl, hd, hs, hc, hdp, hz, q⟩ := h
  obtain ⟨u, rfl, ru⟩ := vals1 r
  obtain ⟨as, rd⟩ := Dp.reads I d x u hd ru
  have hdd := PyData.hasDict_of_canLay d hc
  have hzz : d.shown.length ≤ sizeLine := by rw [sizeLine_eq]; omega
  have fin : ∀ (h' : Heap) (tk : Tok) (tk' : Nat), (∀ b o, s.heap.get? b = some o → h'.get? b = some o) → EP X pins σ Q (.str d.shown tk) { s with heap := h', toks := tk' } :=
    fun h' tk tk' hk => ⟨.str d.shown, H, I.kept hk, ⟨tk, rfl⟩, q⟩
  cases hd with
  | non => cases ru; exact PySem.P.repr_of_none (fin s.heap _ _ fun _ _ e => e)
  | bl b => cases ru; exact PySem.P.repr_of_bool (fin s.heap _ _ fun _ _ e => e)
  | int i =>
    obtain ⟨t, rfl⟩ := ru
    have hi : i.natAbs.log2 < 1920 := by simpa [PyData.showable] using hs
    exact PySem.P.repr_of_int hi (fin s.heap _ _ fun _ _ e => e)
  | str z =>
    obtain ⟨t, rfl⟩ := ru
    exact PySem.P.repr_of_str (fin s.heap _ _ fun _ _ e => e) hzz
  | lst h1 h2 =>
    cases ru
    exact repr_of_reads' rd hs (PyData.noDict_hsm hdd) hg (by omega) (fun _ _ e => e) (fun h' u tk hk => fin h' u tk hk) hzz
  | tup h1 h2 =>
    cases ru
    exact repr_of_reads' rd hs (PyData.noDict_hsm hdd) hg (by omega) (fun _ _ e => e) (fun h' u tk hk => fin h' u tk hk) hzz
end
end Mw

namespace Mw
open PySem PySem.Spec PyProof.Rows L2
/-! ### the end of a law row: the law's def runs where nothing is under way; tables of code objects are tracked -/
/-- the abstract heap at the law's call: the tables, and the script where it is no object of the text -/
def H0 (K : PySem.W.Frag) (a : Addr) (ob : Obj) (xs : List V) (T : List Addr) : Hp := fun b =>
  if b ∈ T then some (.tbl #[]) else if b = a ∧ K.lookup a = none then some (.frz ob (.lst xs)) else none
section
variable {P : Program} {w : World} {K : PySem.W.Frag} {mg mb : Str → Option Value} {k : Nat} {fa a : Addr} {cs : List (Addr × Addr)} {fd : FuncData} {x : Str} {sp : Sp} {s : Shared} {vs : List Value} {ns : List Int}
abbrev scr (vs : List Value) : Obj := { cls := .type "list", data := .seq vs.toArray }
abbrev tb0 : Obj := { cls := .none, data := .fields #[] }
theorem law_run (KX : K.In s.heap) (hns : s.heap.Ns mainGlobals mg) (hb : s.heap.Ns builtinsNs mb) (hbb : ∀ y : Str, y ≠ "__name__" → mb y = bootBuiltins y)
    (hlim : s.heap.NoLimit) (hg : s.gens = #[]) (tab : ∀ p ∈ cs, s.heap.get? p.2 = some tb0) (tabK : ∀ p ∈ cs, K.lookup p.2 = none)
    (cod : ∀ p ∈ cs, PySem.W.CodeHd s.heap p.1 p.2)
    (hbm : ∃ (bm : Addr) (ob : Obj), mg "__builtins__" = some (.ref bm) ∧ bm ≠ builtinsNs ∧ s.heap.get? bm = some ob ∧ ob.cls = .type "module" ∧ ob.dict = some builtinsNs ∧ ob.data = .plain)
    (ha : s.heap.get? a = some (scr vs)) (hi : IntsAre vs ns) (hl : ns.length ≤ sizeLine) (hr : Room k callerA)
    (F : ∀ base : Heap, K.In base → base.Ns mainGlobals mg → (∀ p ∈ cs, GxR.TabB base mg p.1 p.2) → FnG P w K mg base k fa fd [x] sp)
    (hbind : ∀ (s : Shared) (u : Value), BindsTo s fd ⟨[u], []⟩ [(x, u)])
    (hsp : ∀ H : Hp, (∀ p ∈ cs, H p.2 = some (.tbl #[])) → SqL K H a (ns.map V.int) → sp [.ref a] H (fun v _ => v = .bl true) fun _ _ _ => False) :
    codeAny (model P w) callerA (.call (.ref fa) ⟨[.ref a], []⟩)
      (fun r s' => r = .ok (.ret (.bool true)) ∧ OldK s.heap s'.heap ∧ s'.os = s.os ∧ AllBare s'.gens) s := by
  have rv : Vals (ns.map V.int) vs := vals_ints hi
  have lv : vs.length = ns.length := hi.length
  obtain ⟨T, hTd⟩ : ∃ T, T = cs.map (·.2) := ⟨_, rfl⟩
  have tT : ∀ b ∈ T, s.heap.get? b = some tb0 ∧ K.lookup b = none := fun b h => by
    rw [hTd] at h
    obtain ⟨p, hp, rfl⟩ := List.mem_map.mp h
    exact ⟨tab p hp, tabK p hp⟩
  have cT : ∀ p ∈ cs, p.2 ∈ T := fun p hp => by rw [hTd]; exact List.mem_map.mpr ⟨p, hp, rfl⟩
  have aT : a ∉ T := fun h => by
    have e := (tT a h).1
    rw [ha] at e
    exact absurd (congrArg Obj.data (Option.some.inj e)) (fun z => by cases z)
  obtain ⟨H, hH⟩ : ∃ H, H = H0 K a (scr vs) (ns.map V.int) T := ⟨_, rfl⟩
  have hT1 : ∀ b ∈ T, H b = some (.tbl #[]) := fun b h => by rw [hH]; exact if_pos h
  have hA1 : K.lookup a = none → H a = some (.frz (scr vs) (.lst (ns.map V.int))) := fun h => by
    rw [hH]; exact (if_neg aT).trans (if_pos ⟨rfl, h⟩)
  have hN1 : ∀ b, b ∉ T → ¬ (b = a ∧ K.lookup a = none) → H b = none := fun b h1 h2 => by
    rw [hH]; exact (if_neg h1).trans (if_neg h2)
  have three : ∀ b, (b ∈ T) ∨ (b = a ∧ K.lookup a = none ∧ b ∉ T) ∨ H b = none := fun b => by
    by_cases h1 : b ∈ T
    · exact .inl h1
    · by_cases h2 : b = a ∧ K.lookup a = none
      · exact .inr (.inl ⟨h2.1, h2.2, h1⟩)
      · exact .inr (.inr (hN1 b h1 h2))
  have hok : HOk P w H s.heap := fun b u e => by
    rcases three b with h | ⟨h1, h2, _⟩ | h
    · rw [hT1 b h] at e; cases e; exact (tT b h).1
    · subst h1
      rw [hA1 h2] at e; cases e
      exact ⟨ha, by rw [List.length_map]; exact hl, vs, _, rv, ha⟩
    · rw [h] at e; cases e
  have bk : ∀ b o, s.heap.get? b = some o → H b = none → (hidT s.heap H).get? b = some o := fun b o e n => hidT_get e n
  have other : ∀ b o, s.heap.get? b = some o → o.data ≠ .fields #[] → (∀ us n, o.data ≠ .seq us n) → H b = none := fun b o e d1 d2 => by
    rcases three b with h | ⟨h1, _, _⟩ | h
    · rw [(tT b h).1] at e; cases e; exact absurd rfl d1
    · subst h1; rw [ha] at e; cases e; exact absurd rfl (d2 _ _)
    · exact h
  have nsB : ∀ b m, s.heap.Ns b m → (hidT s.heap H).Ns b m := fun b m ⟨o, es, ep, e, d, r⟩ =>
    ⟨o, es, ep, bk b o e (other b o e (by rw [d]; nofun) fun us n => by rw [d]; nofun), d, r⟩
  have KB : K.In (hidT s.heap H) := fun b o e => bk b o (KX b o e) (by
    rcases three b with h | ⟨h1, h2, _⟩ | h
    · rw [(tT b h).2] at e; cases e
    · subst h1; rw [h2] at e; cases e
    · exact h)
  have md : Mod K mg (hidT s.heap H) := ⟨KB, nsB _ _ hns, ⟨mb, nsB _ _ hb, hbb⟩, let ⟨mc, h1, h2⟩ := hlim; ⟨mc, nsB _ _ h1, h2⟩⟩
  have TB : ∀ p ∈ cs, GxR.TabB (hidT s.heap H) mg p.1 p.2 := fun p hp => by
    refine ⟨?_, ?_, fun z => ?_⟩
    · obtain ⟨o, us, fi, tf, fl, tg, inF, tx, tt, e1, r1, r2, r3, r4, r5, r6, r7, r8, r9⟩ := cod p hp
      refine ⟨o, us, fi, tf, fl, tg, inF, tx, tt, bk _ o e1 (other _ o e1 (fun z => ?_) fun ws n => by rw [r2]; nofun), r1, r2, r3, r4, r5, r6, r7, r8, r9⟩
      rw [r2] at z
      cases z
      simp at r3
    · obtain ⟨bm, ob, b1, b2, b3, b4, b5, b6⟩ := hbm
      refine ⟨bm, ob, b1, b2, fun q => ?_, fun q => ?_, bk _ ob b3 (other _ ob b3 (by rw [b6]; nofun) fun us n => by rw [b6]; nofun), b4, b5, b6⟩
      · obtain ⟨o, es, ep, e, d, _⟩ := hns
        rw [q, e] at b3
        cases b3
        rw [d] at b6
        cases b6
      · rw [q, tab p hp] at b3
        cases b3
        cases b6
    · obtain ⟨o, es, ep, e, d, _⟩ := hns
      rw [z, tab p hp] at e
      cases e
      cases d
  have e0 : Env0 P w K mg (hidT s.heap H) callerA [] s H :=
    ⟨rfl, md, fun b o e => of_hidT e, Nat.le_of_eq (hidT_size _ _), trivial, fun b hb => absurd (show b ∈ ([] : List Addr) from hb) List.not_mem_nil, hok, .of_eq hg⟩
  have sq : SqL K H a (ns.map V.int) := by
    cases q : K.lookup a with
    | none => exact .inl (.inr ⟨_, hA1 q⟩)
    | some o =>
      have e := KX a o q
      rw [ha] at e
      cases e
      exact .inr ⟨_, vs.toArray, _, q, rfl, rfl, rfl, by rw [List.size_toArray, lv]; exact hl, by simpa using rv⟩
  refine codeAny_mono ((F _ KB (nsB _ _ hns) TB).run callerA [] s H ⟨[.ref a], []⟩ [.ref a] [.ref a] _ _ hr rfl e0 (hbind s (.ref a)) (.cons rfl .nil) (hsp H (fun p hp => hT1 _ (cT p hp)) sq)) fun r s2 h => ?_
  cases r with
  | error e => exact False.elim h
  | ok fl =>
    cases fl with
    | next => exact False.elim h
    | brk => exact False.elim h
    | cont => exact False.elim h
    | ret u =>
      obtain ⟨v, H2, os, bare, un, hok2, ru, q⟩ := h
      obtain rfl : v = .bl true := q
      obtain rfl : u = Value.bool true := ru
      have old : ∀ b o, b ∉ T → s.heap.get? b = some o → s2.heap.get? b = some o := fun b o nb e => by
        rcases three b with h | ⟨h1, h2, _⟩ | h
        · exact absurd h nb
        · subst h1
          have z := hok2 _ _ (un.frzs _ _ _ (hA1 h2))
          rw [ha] at e
          cases e
          exact z.1
        · exact un.keep b o e h (by intro z; cases z) (by simp)
      have grown : ∀ b ∈ T, ∃ more : Array Value, s2.heap.get? b = some { cls := .none, data := .fields more } := fun b hb => by
        obtain ⟨more, z⟩ := un.tbls b #[] (hT1 b hb)
        exact ⟨_, hok2 b _ z⟩
      refine ⟨rfl, ⟨fun b o e => ?_, fun b o e => ?_⟩, os, bare⟩
      · by_cases hb : b ∈ T
        · obtain ⟨more, hm⟩ := grown b hb
          rw [hTd] at hb
          obtain ⟨p, hp, rfl⟩ := List.mem_map.mp hb
          rw [tab p hp] at e
          cases e
          exact .inr (.inl ⟨((cod p hp).tab (tab p hp)).isCodeTable, rfl, #[], more, rfl, by rw [Array.empty_append]; exact hm⟩)
        · exact .inl (old b o hb e)
      · by_cases hb : b ∈ T
        · obtain ⟨more, hm⟩ := grown b hb
          exact ⟨_, hm⟩
        · exact ⟨o, old b o hb e⟩
end
/-- what the head tells of a def of the view -/
def TabOf (K : PySem.W.Frag) (h : Heap) (x : Str) : Prop := ∀ c Q, PySem.W.tabIn K x = some (c, Q) → PySem.W.CodeHd h c Q ∧ h.get? Q = some tb0
/-- the goal that k_head leaves -/
theorem law_end {l : PySem.W.OpenLaw} {n k : Nat} {q : Program} {loose : List Str} {XP : (Str → Option Value) → Heap → Prop} {YP : World → Heap → Prop} {d : DefRec} {K : Params → PySem.W.Frag} {x : Str}
    (hn : l.most = some n) (hn2 : n ≤ sizeLine) (hdf : d.params.defaults = []) (hr : Room k callerA) (hY : ∀ (w : World) (h : Heap), YP w h → (K w.params).In h)
    (F : ∀ (w : World) (mg : Str → Option Value) (fa : Addr) (h : Heap), (K w.params).In h → h.Ns mainGlobals mg → mg d.name = some (.ref fa) →
      (∀ (y : Str), ((recsOf q).any fun e => e.name == y) = true → TabOf (K w.params) h y) →
      ∃ (fd : FuncData) (cs : List (Addr × Addr)) (sp : Sp), (∀ p ∈ cs, h.get? p.2 = some tb0 ∧ (K w.params).lookup p.2 = none ∧ PySem.W.CodeHd h p.1 p.2) ∧
        (∀ (s : Shared) (u : Value), BindsTo s fd ⟨[u], []⟩ [(x, u)]) ∧
        (∀ (H : Hp) (a : Addr) (ns : List Int), ns.length ≤ n → (∀ z ∈ ns, Builtin.Int.intBits z ≤ 1048576) → (∀ p ∈ cs, H p.2 = some (.tbl #[])) → SqL (K w.params) H a (ns.map V.int) →
          sp [.ref a] H (fun v _ => v = .bl true) fun _ _ _ => False) ∧
        ∀ base : Heap, (K w.params).In base → base.Ns mainGlobals mg → (∀ p ∈ cs, GxR.TabB base mg p.1 p.2) → FnG l.prog w (K w.params) mg base k fa fd [x] sp) :
    PySem.W.WalkO q loose XP YP l.row.toRowW d [] (fun f vs => PySem.call f vs) := by
  refine Att.attach_callB hn hdf fun w s0 s1 mg mb fa o pm cd doc a vs ns G Y ho hd hcd hmg hobj hints hlen hbits hg => ?_
  have KX := hY w _ Y
  have tabs : ∀ (y : Str), ((recsOf q).any fun e => e.name == y) = true → TabOf (K w.params) s1.heap y := fun y hy c Q ht => by
    have h1 : ((recsOf q).find? fun e => e.name == y).isSome = true := by
      rw [List.find?_isSome]
      obtain ⟨e, he, hz⟩ := List.any_eq_true.mp hy
      exact ⟨e, he, hz⟩
    obtain ⟨dy, hdy⟩ := Option.isSome_iff_exists.mp h1
    exact PySem.W.tab_of G.T KX hdy ht
  obtain ⟨fd, cs, sp, h1, h2, h3, h4⟩ := F w mg fa _ KX G.T.g hmg tabs
  exact law_run KX G.T.g G.T.b G.T.builtins G.T.nolimit hg (fun p hp => (h1 p hp).1) (fun p hp => (h1 p hp).2.1) (fun p hp => (h1 p hp).2.2) G.T.bmain hobj hints (Nat.le_trans hlen hn2) hr h4 h2
    fun H hH hS => h3 H a ns hlen hbits hH hS
end Mw

namespace Mw
open PySem PySem.Spec PyProof.Rows L2
/-! ### generator expressions: the element runs in a frame of its own -/
/-- around the element: one frame more -/
structure GA (X : Cx) (cenv : Env) (B : Around) : Prop where
  hd : B.handled = none
  fr : B.frames = some (cenv :: X.stack)
  gu : B.guards = X.A.guards
  dp : B.depth ≤ X.A.depth + 1
  un : B.units ≤ X.A.units + 12
theorem GA.room {X : Cx} {cenv : Env} {B : Around} {k : Nat} (a : GA X cenv B) (r : Room (k + 1) X.A) : Room k B :=
  ⟨a.hd, by have := a.dp; have := r.dp; omega, by have := a.un; have := r.un; omega⟩
/-- the context of the element -/
abbrev gcx (X : Cx) (B : Around) (s : Shared) (H : Hp) (cenv : Env) (fp : List Addr) : Cx :=
  { X with A := B, s_0 := s, H_0 := H, env := cenv, outer := X.stack, stack := cenv :: X.stack, ex := fp, fn := fun _ => false, calm := true, pn := [], xe := fun _ _ => False }
abbrev gEnv (X : Cx) (scope : Scope) (C : Addr) (code : Value) : Env := genEnv scope (cloFrom X.env.cells scope.names []) C code builtinsNs X.env
section
variable {X : Cx} {pins : List (Addr × Obj)} {σ : L2.St} {H : Hp} {s : Shared}
theorem gen_start {scope : Scope} {own : List (Str × Nat)} {fp : List Addr} {B : Around} {code : Value} {m : Str → Option Value} {t : Shared}
    (I : Inv X pins σ H s) (ok : BlkOk X.N X.env.scope scope own) (nc : ∀ y ∈ scope.names, y.2 ≠ .cell) (hN : X.N.Nodup) (hfp : ∀ b ∈ fp, FpOk X pins H b ∧ b < s.heap.objs.size)
    (ga : GA X (gEnv X scope s.heap.objs.size code) B) (os : t.os = s.os) (bare : AllBare t.gens) (kp : ∀ b o, s.heap.get? b = some o → t.heap.get? b = some o) (hn : t.heap.Ns s.heap.objs.size m) :
    Inv (gcx X B s H (gEnv X scope s.heap.objs.size code) fp) [] (wipe σ (own.map (·.2))) H t := by
  have hfree : ∀ y ∈ scope.names, y.2 = .free → ∃ c, X.env.cells.lookup y.1 = some c := fun y hy e => by
    rcases ok.free y hy e with k | k
    · exact I.ok.has _ (.inl k)
    · exact I.ok.has _ (.inr k)
  have cl : ∀ {y c}, (cloFrom X.env.cells scope.names []).lookup y = some c → X.env.cells.lookup y = some c ∧ c < s.heap.objs.size := fun {y c} e => by
    rcases cloFrom_mem (PySem.mem_of_lookup e) with hm | ⟨h1, h2⟩
    · cases hm
    · obtain ⟨c1, hc1⟩ := hfree _ h1 rfl
      have hc1' : X.env.cells.lookup y = some c1 := hc1
      rw [hc1'] at h2
      have e2 : c = c1 := h2
      rw [e2]
      obtain ⟨_, z⟩ := I.cell _ _ hc1'
      exact ⟨hc1', z.lt⟩
  have cf : ∀ {y}, scope.names.lookup y = some .free → ∃ c, (cloFrom X.env.cells scope.names []).lookup y = some c := fun {y} e => by
    obtain ⟨c, h⟩ := mem_lookup (cloFrom_has (cells := X.env.cells) (acc := []) (PySem.mem_of_lookup e))
    exact ⟨c, h⟩
  have okG : (gcx X B s H (gEnv X scope s.heap.objs.size code) fp).Ok := by
    refine ⟨I.ok.mod, ok.kind, I.ok.glob, rfl, Nat.le_refl _, fun y z c e1 e2 => I.ok.inj y z c (cl e1).1 (cl e2).1, fun y hy => ?_, fun y c z => (Bool.false_ne_true z).elim, fun _ => ga.hd, ga.fr, .inr ⟨rfl, rfl⟩,
      fun b hb => ⟨Nat.ne_of_lt (hfp b hb).2, fun y c e => (hfp b hb).1.2.2.2.2.1 y c (cl e).1⟩, I.bs, Nat.le_trans I.ok.bsz I.sz, fun b o e hb => ?_, fun b hb z => ?_, I.stack, I.stkFree⟩
    · have hy' : scope.names.lookup y = some .cell ∨ scope.names.lookup y = some .free := hy
      rcases hy' with h | h
      · exact absurd rfl (nc _ (PySem.mem_of_lookup h))
      · exact cf h
    · rcases (hfp b hb).1.2.2.2.1 with z | z
      · exact I.ok.noex b o e z
      · exact absurd (Nat.lt_of_lt_of_le (Heap.lt_size e) (Nat.le_trans I.ok.bsz z)) (Nat.lt_irrefl _)
    · rcases List.mem_cons.mp (I.stkSub b z) with z | z
      · exact (hfp b hb).1.2.1 z
      · exact (hfp b hb).1.2.2.1 z
  refine ⟨okG, os, bare, Un.kept kp, ⟨m, hn, fun i y v e1 e2 e3 => ?_⟩, fun y c e => ?_, I.hok.fresh (Nat.le_refl _), fun y c e => I.freeC y c (cl e).1, fun p hp => ?_, I.hok.kept kp, by rw [wipe_length]; exact I.len⟩
  · obtain ⟨e2, hw⟩ := wipe_some e2
    have nl : ∀ k, scope.names.lookup y = some k → k = .local ∨ k = .cell → False := fun k hk hk' => by
      rcases ok.own _ (PySem.mem_of_lookup hk) hk' with q | q
      · obtain ⟨p, hp, hpy⟩ := List.mem_map.mp q
        have e4 := ok.ix p hp
        have hpy' : p.1 = y := hpy
        rw [hpy'] at e4
        exact hw (List.mem_map.mpr ⟨p, hp, nodup_ix hN e4 e1⟩)
      · exact q (List.mem_of_getElem? e1)
    have fr : scope.names.lookup y = some .free := by
      have e3' : Vis scope y := e3
      rcases e3' with k | k | k
      · exact (nl _ k (.inl rfl)).elim
      · exact (nl _ k (.inr rfl)).elim
      · exact k
    obtain ⟨c, hc⟩ := cf fr
    have hc2 := (cl hc).1
    obtain ⟨m1, _, hl⟩ := I.loc
    have vs : Vis X.env.scope y := (ok.free _ (PySem.mem_of_lookup fr) rfl).elim (fun k => .inr (.inl k)) (fun k => .inr (.inr k))
    obtain ⟨u, ru, lk⟩ := hl i y v e1 e2 vs
    refine ⟨u, ru, .inr ⟨.inr fr, c, hc, ?_⟩⟩
    rcases lk with ⟨k, _⟩ | ⟨_, c', e', z⟩
    · have k' : X.env.scope.names.lookup y = some .local := k
      rcases ok.free _ (PySem.mem_of_lookup fr) rfl with q | q
      · rw [show X.env.scope.names.lookup y = _ from q] at k'; cases k'
      · rw [show X.env.scope.names.lookup y = _ from q] at k'; cases k'
    · rw [hc2] at e'; cases e'
      exact z.keeps kp
  · obtain ⟨u, z⟩ := I.cell y c (cl e).1
    exact ⟨u, z.keeps kp⟩
  · exact absurd (show p ∈ ([] : List (Addr × Obj)) ++ [] from hp) (by simp)
/-- while the generator sleeps only objects at sl turn -/
structure Idle (sl : List Addr) (s t : Shared) : Prop where
  os : t.os = s.os
  bare : AllBare t.gens
  kp : ∀ b o, b ∉ sl → s.heap.get? b = some o → t.heap.get? b = some o
  ob : ∀ b ∈ sl, ∃ o, t.heap.get? b = some o
theorem Inv.idle {sl : List Addr} {t : Shared} (I : Inv X pins σ H s) (f : ∀ b ∈ sl, FpOk X pins H b) (z : Idle sl s t) : Inv X pins σ H t := by
  obtain ⟨th, tg, td, tt, to⟩ := t
  obtain rfl : to = s.os := z.os
  have nb : ∀ b u, H b = some u → b ∉ sl := fun b u e hb => by rw [(f b hb).1] at e; cases e
  refine I.step (g' := tg) (t' := tt) (d' := td) (ch := sl) (fun b hb => ⟨(f b hb).2.2.2.1, (f b hb).2.1, (f b hb).2.2.2.2.1, (f b hb).2.2.2.2.2⟩) (fun b o _ _ hc e _ => z.kp b o hc e)
    (fun b o _ _ hc e _ => ⟨o.slots, z.kp b o hc e⟩) (fun _ _ _ _ n => n) (fun b o hc e => ⟨o, z.kp b o hc e⟩) (fun _ _ e => e) (fun _ _ _ e => e) (fun b ps e => ⟨#[], by rw [e]; simp⟩) (fun m hm => ?_) (fun b u e => ?_) z.bare
  · obtain ⟨o, es, ep, ho, r⟩ := hm
    exact ⟨o, es, ep, z.kp _ o (fun hb => (f _ hb).2.1 rfl) ho, r⟩
  · refine (I.hok b u e).stay (fun c v hc q => z.kp c v ?_ q) (fun _ q => q) fun _ _ q => q
    rcases hc with y | y
    · rw [y]; exact nb b u e
    · exact nb c _ y
end
end Mw

namespace Mw
open PySem PySem.Spec PyProof.Rows L2
/-! ### the turns of a generator expression -/
/-- who draws: what it keeps (a), at objects of its own (sl) -/
structure Con (α : Type) (sl : List Addr) where
  stp : α → V → Option α
  cs : α → Heap → Prop
  ob : ∀ a h, cs a h → ∀ b ∈ sl, ∃ o, h.get? b = some o ∧ ∀ v, o.data ≠ .cell v
  kp : ∀ a h h', cs a h → (∀ b ∈ sl, ∀ o, h.get? b = some o → h'.get? b = some o) → cs a h'
section
variable {α : Type} {sl : List Addr}
def gY (Y : Cx) (c : Con α sl) (Fi : α → V → Hp → Prop) : Protocol := fun n s0 v s1 kap =>
  ∃ (a : α) (y : V) (ps : List (Addr × Obj)) (σ : L2.St) (H : Hp), RelV y v ∧ Inv Y ps σ H s1 ∧ (∀ b ∈ sl, H b = none) ∧ c.cs a s1.heap ∧
    ((c.stp a y = none ∧ Fi a y H) ∨ ∃ a', c.stp a y = some a' ∧ ∀ s2, Idle sl s1 s2 → c.cs a' s2.heap → kap (.send .none) s2)
def gR (Y : Cx) (c : Con α sl) (En : α → Hp → Prop) : Nat → Shared → Shared → Prop := fun n s0 s1 =>
  ∃ (a : α) (ps : List (Addr × Obj)) (σ : L2.St) (H : Hp), Inv Y ps σ H s1 ∧ (∀ b ∈ sl, H b = none) ∧ c.cs a s1.heap ∧ En a H
/-- what the turns ask -/
def turns (J : It) (g : TG) (tt : TT) (te : TE) (vs : List Nat) (stp : α → V → Option α) (Fi : α → V → Hp → Prop) (En : α → Hp → Prop) (σ : L2.St) (W : Nat → Nat → α → Hp → Prop) : Prop :=
  ∀ i m a H, W i m a H → (J.stop i H ∧ En a H) ∨ (J.go i H ∧ ∃ Nx : α → Hp → Prop, (∀ a' H', Nx a' H' → ∃ m', m' < m ∧ W (i + 1) m' a' H') ∧
    ∀ x H', J.yld i H x H' → g x (wipe σ vs) H' fun σ2 H2 => wipe σ2 vs = wipe σ vs ∧ tt σ2 H2 fun b H3 =>
      if b = true then te σ2 H3 fun y H4 => (stp a y = none ∧ Fi a y H4) ∨ ∃ a', stp a y = some a' ∧ Nx a' H4 else Nx a H3)
section
variable {Y : Cx} {fp : List Addr} {it : Addr} {tn : Nat → Heap → Prop} {J : It} {elt tg iter : Expr} {ifs : List Expr} {scope : Scope} {pos : Pos} {g : TG} {tt : TT} {te : TE} {vs : List Nat} {σ : L2.St} {W : Nat → Nat → α → Hp → Prop} {Fi : α → V → Hp → Prop} {En : α → Hp → Prop} {Ag : Around}
theorem gen_loop (c : Con α sl) (hcalm : Y.calm = true) (hpn : Y.pn = []) (hxe : Y.xe = fun _ _ => False) (hex : Y.ex = fp) (T : Turn Y.prog Y.w Y.K tg J fp it tn) (dj : ∀ b ∈ fp, b ∉ sl)
    (sf : ∀ b ∈ sl, b ≠ Y.env.locals ∧ b ∉ Y.fs ∧ Y.s_0.heap.objs.size ≤ b ∧ ∀ x c, Y.env.cells.lookup x = some c → c ≠ b)
    (pg : PG Y tg g) (pt : PTs Y ifs tt) (pe : PE Y elt te) (hco : Y.env.scope.isCoroutine = false)
    (hA : Ag.over (.compLoop (.GeneratorExp elt [⟨tg, iter, ifs, 0⟩] scope pos) 0 (.ref it) .none Y.env) [] = Y.A) (tu : turns J g tt te vs c.stp Fi En σ W) :
    ∀ (m n i : Nat) (a : α) (s0 s : Shared) (H : Hp), m < n → W i m a H → Inv Y [] (wipe σ vs) H s → tn i s.heap → (∀ b ∈ fp, H b = none) → (∀ b ∈ sl, H b = none) → c.cs a s.heap →
      Seg (model Y.prog Y.w) Ag (fun n s0 r s1 => r = .ok .next ∧ gR Y c En n s0 s1) (gY Y c Fi) n s0
        (.compLoop (.GeneratorExp elt [⟨tg, iter, ifs, 0⟩] scope pos) 0 (.ref it) .none Y.env)
        ((model Y.prog Y.w).den (.compLoop (.GeneratorExp elt [⟨tg, iter, ifs, 0⟩] scope pos) 0 (.ref it) .none Y.env)) [] s := by
  have hyo : ∀ v, yieldOut Y.env v = yieldValue v := fun v => by simp only [yieldOut, hco, Bool.false_eq_true, if_false]
  have nop : ∀ {H : Hp} {s : Shared} {ps : List (Addr × Obj)} {σ' : L2.St}, Inv Y ps σ' H s → Inv Y [] σ' H s := fun {H s ps σ'} I => I.pins_of fun p hp => by cases hp
  have slOk : ∀ {H : Hp} {ps : List (Addr × Obj)}, (∀ b ∈ sl, H b = none) → (∀ p ∈ ps, p.1 ∉ sl) → ∀ b ∈ sl, FpOk Y ps H b := fun {H ps} h1 h2 b hb =>
    ⟨h1 b hb, (sf b hb).1, (sf b hb).2.1, .inr (sf b hb).2.2.1, (sf b hb).2.2.2, fun p hp e => h2 p (by rw [hpn] at hp; exact hp) (by rw [e]; exact hb)⟩
  have fpOk : ∀ {H : Hp} {s : Shared} {ps : List (Addr × Obj)} {σ' : L2.St}, Inv Y ps σ' H s → (∀ b ∈ fp, H b = none) → (∀ p ∈ ps, p.1 ∉ fp) → ∀ b ∈ fp, FpOk Y ps H b := fun {H s ps σ'} I h1 h2 b hb => by
    have hb' : b ∈ Y.ex := by rw [hex]; exact hb
    exact ⟨h1 b hb, (I.ok.exf b hb').1, I.ok.exfs b hb', .inl hb', (I.ok.exf b hb').2, fun p hp e => h2 p (by rw [hpn] at hp; exact hp) (by rw [e]; exact hb)⟩
  intro m
  induction m using Nat.strongRecOn with
  | ind m ih =>
    intro n i a s0 s H hmn w I st nfp nsl hcs
    show Seg _ Ag _ _ n s0 _ ((compTurn (.GeneratorExp elt [⟨tg, iter, ifs, 0⟩] scope pos) 0 (.ref it) .none Y.env).onRaise (leaving Y.env)) [] s
    rw [compTurn_gen, Sem.onRaise_eq_wrap]
    refine seg_bind_wrap (wpAny_standAt ?_)
    have I1 : Inv Y ([] ++ pinsAt sl s.heap) (wipe σ vs) H s := I.pinned (slOk nsl fun p hp => by cases hp) (c.ob a s.heap hcs)
    have f1 : ∀ b ∈ fp, FpOk Y ([] ++ pinsAt sl s.heap) H b := fpOk I1 nfp fun p hp hb => by
      rw [List.nil_append] at hp
      exact dj _ hb (of_pinsAt hp).1
    rcases tu i m a H w with ⟨stop, en⟩ | ⟨go, Nx, hNx, step⟩
    · refine seg_bind_wrap ?_
      rw [hA]
      refine thn (T.done Y rfl rfl rfl hcalm i _ s _ H _ I1 f1 st stop) fun r s1 hr => ?_
      obtain ⟨rfl, J1⟩ := hr
      refine seg_end (.ok .next) ⟨rfl, a, _, _, H, J1, nsl, c.kp a _ _ hcs fun b hb o e => ?_, en⟩
      exact (J1.pin (b, o) (List.mem_append_right _ (List.mem_append_right _ (mem_pinsAt hb e)))).1
    · refine seg_bind_wrap ?_
      rw [hA]
      refine thn (T.item Y rfl rfl rfl hcalm i _ s _ H _ I1 f1 st go) fun r s1 hr => ?_
      obtain ⟨u, rfl, h1⟩ := hr
      refine seg_bind_wrap ?_
      rw [hA]
      refine thn h1 fun _ s2 h2 => ?_
      obtain ⟨x, H2, I2, rx, yl, st2, nfp2⟩ := h2
      have I3 := I2.pinned (fpOk I2 nfp2 fun p hp hb => by
        rw [List.nil_append] at hp
        exact dj _ hb (of_pinsAt hp).1) (T.obj _ _ st2)
      refine seg_bind_wrap ?_
      rw [hA]
      refine wpAny_mono (pg.run _ s2 _ H2 x u _ I3 rx (step x H2 yl)) (fun _ s3 h3 => ?_) (fun _ _ z => by rw [hxe] at z; exact z.elim)
      obtain ⟨σ3, H3, I4, hw3, q3⟩ := h3
      refine seg_bind_wrap ?_
      rw [hA]
      refine wpAny_mono (pt.run _ s3 σ3 H3 _ I4 q3) (fun b s4 h4 => ?_) (fun _ _ z => by rw [hxe] at z; exact z.elim)
      obtain ⟨H4, I5, q4⟩ := h4
      -- behind the turn
      have keepS : ∀ {s' : Shared} {H' : Hp} {σ' : L2.St}, Inv Y ([] ++ pinsAt sl s.heap ++ pinsAt fp s2.heap) σ' H' s' → (∀ b ∈ sl, H' b = none) ∧ c.cs a s'.heap ∧ tn (i + 1) s'.heap ∧ ∀ b ∈ fp, H' b = none := fun {s' H' σ'} I' => by
        have ps : ∀ b ∈ sl, ∀ o, s.heap.get? b = some o → s'.heap.get? b = some o ∧ H' b = none := fun b hb o e =>
          let z := I'.pin (b, o) (List.mem_append_right _ (List.mem_append_left _ (List.mem_append_right _ (mem_pinsAt hb e))))
          ⟨z.1, z.2.1⟩
        have pf : ∀ b ∈ fp, ∀ o, s2.heap.get? b = some o → s'.heap.get? b = some o ∧ H' b = none := fun b hb o e =>
          let z := I'.pin (b, o) (List.mem_append_right _ (List.mem_append_right _ (mem_pinsAt hb e)))
          ⟨z.1, z.2.1⟩
        refine ⟨fun b hb => ?_, c.kp a _ _ hcs fun b hb o e => (ps b hb o e).1, T.keep _ _ _ st2 fun b hb o e => (pf b hb o e).1, fun b hb => ?_⟩
        · obtain ⟨o, e, _⟩ := c.ob a s.heap hcs b hb
          exact (ps b hb o e).2
        · obtain ⟨o, e, _⟩ := T.obj _ _ st2 b hb
          exact (pf b hb o e).2
      have back : ∀ {s' : Shared} {H' : Hp} {ps : List (Addr × Obj)}, Inv Y ps σ3 H' s' → Inv Y [] (wipe σ vs) H' s' := fun {s' H' ps} I' =>
        (nop I').weak (by rw [← hw3, wipe_length]) fun j v e => by rw [← hw3] at e; exact (wipe_some e).1
      cases b with
      | false =>
        simp only [Bool.false_eq_true, if_false] at q4 ⊢
        obtain ⟨m', hm, w'⟩ := hNx a H4 q4
        obtain ⟨k1, k2, k3, k4⟩ := keepS I5
        exact seg_again rfl (ih m' hm n (i + 1) a s0 s4 H4 (by omega) w' (back I5) k3 k4 k1 k2)
      | true =>
        simp only [if_true] at q4 ⊢
        simp only [hyo]
        rw [Sem.bind_eq_wrap', Sem.bind_eq_wrap', Sem.wrap_wrap, Sem.wrap_wrap]
        refine seg_wrap ?_
        rw [hA]
        refine wpAny_mono (pe.run _ s4 σ3 H4 _ I5 q4) (fun v s5 h5 => ?_) (fun _ _ z => by rw [hxe] at z; exact z.elim)
        obtain ⟨y, H5, I6, ry, q5⟩ := h5
        obtain ⟨k1, k2, k3, k4⟩ := keepS I6
        rcases q5 with ⟨q5, q6⟩ | ⟨a', q5, nx⟩
        · obtain ⟨n', rfl⟩ : ∃ n', n = n' + 1 := ⟨n - 1, by omega⟩
          exact seg_at (seg_yield rfl rfl rfl ⟨a, y, _, _, H5, ry, I6, k1, k2, .inl ⟨q5, q6⟩⟩)
        · obtain ⟨m', hm, w'⟩ := hNx a' H5 nx
          obtain ⟨n', rfl⟩ : ∃ n', n = n' + 1 := ⟨n - 1, by omega⟩
          refine seg_at (seg_yield rfl rfl rfl ⟨a, y, _, _, H5, ry, I6, k1, k2, .inr ⟨a', q5, fun s6 z hcs' => ?_⟩⟩)
          have I7 : Inv Y [] (wipe σ vs) H5 s6 := Inv.idle (back I6) (slOk k1 fun p hp => by cases hp) z
          refine seg_again rfl (ih m' hm n' (i + 1) a' s6 s6 H5 (by omega) w' I7 (T.keep _ _ _ k3 fun b hb o e => z.kp b o (dj b hb) e) k4 k1 hcs')
end
end
end Mw

namespace Mw
open PySem PySem.Spec PyProof.Rows L2
/-! ### a generator expression is made -/
/-- the generator at ga, not begun, in the state t -/
structure GMk (X : Cx) (pins : List (Addr × Obj)) (σ : L2.St) (elt tg iter : Expr) (ifs : List Expr) (scope : Scope) (pos : Pos) (ga g : Nat) (t : Shared) (it : Addr) (fp : List Addr) (tn : Nat → Heap → Prop) (J : It) (H : Hp) (s : Shared) (code : Value) : Prop where
  turn : Turn X.prog X.w X.K tg J fp it tn
  inv : Inv X pins σ H s
  st : tn 0 t.heap
  fok : ∀ b ∈ fp, FpOk X pins H b ∧ b < s.heap.objs.size
  os : t.os = s.os
  bare : AllBare t.gens
  kp : ∀ b o, s.heap.get? b = some o → t.heap.get? b = some o
  ns : ∃ m, t.heap.Ns s.heap.objs.size m
  isg : t.heap.IsGen ga g
  gen : t.gens[g]? = some (.fresh (.compStart (.GeneratorExp elt [⟨tg, iter, ifs, 0⟩] scope pos) 0 (.ref it) .none (gEnv X scope s.heap.objs.size code)))
  ga : s.heap.objs.size < ga
section
variable {X : Cx} {pins : List (Addr × Obj)} {σ : L2.St} {H : Hp} {s : Shared}
theorem gen_eval {c P : Addr} {elt tg iter : Expr} {ifs : List Expr} {scope : Scope} {own : List (Str × Nat)} {gpos : Pos} {wi : TI} {k : Nat} {Q' : Value → Shared → Prop} {R : It → Hp → Prop}
    (hr : Room k X.A) (TB : GxR.TabB X.base X.mg c P) (hcode : X.env.code = .ref c) (hi : PI X tg iter wi) (ok : BlkOk X.N X.env.scope scope own) (nc : ∀ y ∈ scope.names, y.2 ≠ .cell) (hco : scope.isCoroutine = false)
    (dot : scope.names.lookup (".0" : Str) = some NameKind.local) (hs : ∀ v, genFold iter X.env v = pure v) (I : Inv X pins σ H s)
    (h : wi σ H fun J H1 => GxR.TabG H1 P ∧ ∀ H2, GxR.Tabbed P H1 H2 → R J H2)
    (hQ : ∀ ga g t it fp tn J H2 s2 code, GMk X pins σ elt tg iter ifs scope gpos ga g t it fp tn J H2 s2 code → R J H2 → Q' (.ref ga) t) :
    wpAny (model X.prog X.w) X.A (eval (.GeneratorExp elt [⟨tg, iter, ifs, 0⟩] scope gpos) X.env) Q' X.xe s := by
  have hfree : ∀ y ∈ scope.names, y.2 = .free → ∃ c, X.env.cells.lookup y.1 = some c := fun y hy e => by
    rcases ok.free y hy e with k | k
    · exact I.ok.has _ (.inl k)
    · exact I.ok.has _ (.inr k)
  refine wpAny_GeneratorExp_make hco (closure_ok hfree) nc dot ok.kind (by have := hr.dp; omega) ?_ hs
  refine thn (hi.run pins s σ H _ I h) fun xv s1 hx => thn hx fun itv s2 h2 => ?_
  obtain ⟨it, fp, tn, J, H1, rfl, I1, T, st1, f1, ⟨ps, hP, ht⟩, q⟩ := h2
  have hPs : s2.heap.get? P = some { cls := .none, data := .fields ps } := I1.hok P _ hP
  have cd : PySem.W.CodeHd s2.heap c P := TB.code.keeps I1.bk
  have nP : ∀ b ∈ fp, b ≠ P := fun b hb e => by
    have z := (f1 b hb).1
    rw [e, hP] at z
    cases z
  -- behind the code object
  have go : ∀ (code : Value) (h3 : Heap) (tk : Nat) (more : Array Value), (∀ b o, b ≠ P → s2.heap.get? b = some o → h3.get? b = some o) → h3.get? P = some { cls := .none, data := .fields (ps ++ more) } → TriplesOk (ps ++ more).toList →
      wpAny (model X.prog X.w) X.A (builtinsFor X.env.globals X.env.builtins) (fun bi s4 => ∀ h', h'.Ns s4.heap.objs.size (fun y => if y = (".0" : Str) then some (.ref it) else none) → Heap.SameBut s4.heap.objs.size (s4.heap.push { cls := .type "frame", data := .dict #[] }) h' →
        Q' (.ref h'.objs.size) { s4 with
          gens := s4.gens.push (.fresh (.compStart (.GeneratorExp elt [⟨tg, iter, ifs, 0⟩] scope gpos) 0 (.ref it) .none (genEnv scope (cloFrom X.env.cells scope.names []) s4.heap.objs.size code bi X.env))),
          toks := s4.toks + 1 + 1 + 1,
          heap := h'.push { cls := .type "generator", data := .fields #[.int s4.gens.size 0, .str "<genexpr>" (s4.toks + 1), .str (X.env.qual ++ "<genexpr>") (s4.toks + 1 + 1)] } }) X.xe { s2 with heap := h3, toks := tk } := by
    intro code h3 tk more kp3 hP3 ht3
    have J3 := GxR.inv_tab (more := more) (h' := h3) (g' := s2.gens) (d' := s2.drawn) (t' := tk) I1 hP kp3 hP3 I1.bare
    obtain ⟨bm, ob, e1, e2, e3, e4, e5, e6, e7, e8⟩ := TB.bm
    refine wpAny_builtinsFor (m := X.mg) (by rw [I1.ok.glob]; exact J3.mod.glob.keeps J3.bk) e1 e2 (J3.bk _ _ e5) e6 e7 e8 ?_
    intro h' hn' sb
    have sz : h'.objs.size = h3.objs.size + 1 := by rw [sb.1]; exact Heap.size_push ..
    have kp' : ∀ b o, h3.get? b = some o → h'.get? b = some o := fun b o e => sb.extBut b o (Nat.ne_of_lt (Heap.lt_size e)) (Heap.get?_push_of_some _ e)
    have kp5 : ∀ (og : Obj) b o, h3.get? b = some o → (h'.push og).get? b = some o := fun og b o e => Heap.get?_push_of_some _ (kp' b o e)
    refine hQ _ _ _ it fp tn J (upd H1 P (.tbl (ps ++ more))) _ code ⟨T, J3, ?_, fun b hb => ⟨?_, ?_⟩, rfl, ?_, kp5 _, ⟨_, hn'.push _⟩, ⟨_, _, _, Heap.get?_push_size _ rfl, rfl, rfl, rfl⟩, Array.getElem?_push_size .., ?_⟩
      (q _ ⟨⟨ps ++ more, upd_same, ht3⟩, fun b hb => upd_ne hb⟩)
    · exact T.keep _ _ _ st1 fun b hb o e => kp5 _ b o (kp3 b o (nP b hb) e)
    · obtain ⟨z1, z2, z3, z4, z5, z6⟩ := f1 b hb
      exact ⟨by rw [upd_ne (nP b hb)]; exact z1, z2, z3, z4, z5, z6⟩
    · obtain ⟨o, e, _⟩ := T.obj _ _ st1 b hb
      exact Heap.lt_size (kp3 b o (nP b hb) e)
    · exact I1.bare.push rfl
    · show h3.objs.size < h'.objs.size
      omega
  refine ⟨I1.nolimit, ?_⟩
  cases hf : codeAmong gpos ps.toList with
  | none =>
    refine wpAny_genexprCodeX hcode (cd.code hPs ht) (cd.tab hPs) hf fun c' h' tk hx hge hlt hco' _ htab' _ => ?_
    obtain ⟨o1, vs, f1, tf, fl, tg, inF, tx, tt, op, _, _, _, _, _, _, _, _, _, htr, _⟩ := hco'
    exact go _ h' tk _ hx htab'.2 htr
  | some cv =>
    refine wpAny_genexprCode_hit hcode (cd.code hPs ht) hf ?_
    exact go cv s2.heap s2.toks #[] (fun _ _ _ e => e) (by simpa using hPs) (by simpa using ht)
end
end Mw

namespace Mw
open PySem PySem.Spec PyProof.Rows L2 GenW
/-! ### the first turn; the drawing by all, any -/
section
variable {α : Type} {sl : List Addr} {X : Cx} {pins : List (Addr × Obj)} {σ : L2.St}
abbrev gG (elt tg iter : Expr) (ifs : List Expr) (scope : Scope) (pos : Pos) : Expr := .GeneratorExp elt [⟨tg, iter, ifs, 0⟩] scope pos
abbrev gB (Ag : Around) (elt tg iter : Expr) (ifs : List Expr) (scope : Scope) (pos : Pos) (it : Addr) (cenv : Env) : Around := Ag.over (.compLoop (gG elt tg iter ifs scope pos) 0 (.ref it) .none cenv) []
theorem ga_of {Ag : Around} {elt tg iter : Expr} {ifs : List Expr} {scope : Scope} {pos : Pos} {it : Addr} {cenv : Env} {k : Nat} (hr : Room k X.A) (hf : X.A.frames = some X.stack)
    (h1 : Ag.handled = X.A.handled) (h2 : Ag.frames = X.A.frames) (h3 : Ag.guards = X.A.guards) (h4 : Ag.depth = X.A.depth) (h5 : Ag.units ≤ X.A.units + 8) : GA X cenv (gB Ag elt tg iter ifs scope pos it cenv) := by
  refine ⟨h1.trans hr.hd, ?_, ?_, ?_, ?_⟩
  · show pushEnvs [cenv] (pushEnvs [] Ag.frames) = _
    rw [h2, hf]
    rfl
  · show pushGuards [] (pushGuards [] Ag.guards) = _
    rw [h3]
    rfl
  · show Ag.depth + 0 + 1 ≤ _
    omega
  · show Ag.units + 0 + 3 ≤ _
    omega
/-- the generator may be woken -/
theorem gen_goes {Ag : Around} {elt tg iter : Expr} {ifs : List Expr} {scope : Scope} {own : List (Str × Nat)} {pos : Pos} {ga g : Nat} {t : Shared} {it : Addr} {fp : List Addr} {tn : Nat → Heap → Prop} {J : It} {H : Hp} {s : Shared} {code : Value} {gg : TG} {tt : TT} {te : TE}
    {W : Nat → Nat → α → Hp → Prop} {Fi : α → V → Hp → Prop} {En : α → Hp → Prop} {k m n : Nat} {a : α} {t2 : Shared} (c : Con α sl)
    (M : GMk X pins σ elt tg iter ifs scope pos ga g t it fp tn J H s code) (hr : Room k X.A) (ok : BlkOk X.N X.env.scope scope own) (nc : ∀ y ∈ scope.names, y.2 ≠ .cell) (hN : X.N.Nodup) (hco : scope.isCoroutine = false)
    (hsl : ∀ b ∈ sl, s.heap.objs.size < b) (ga_ : GA X (gEnv X scope s.heap.objs.size code) (gB Ag elt tg iter ifs scope pos it (gEnv X scope s.heap.objs.size code)))
    (pg : PG (gcx X (gB Ag elt tg iter ifs scope pos it (gEnv X scope s.heap.objs.size code)) s H (gEnv X scope s.heap.objs.size code) fp) tg gg)
    (pt : PTs (gcx X (gB Ag elt tg iter ifs scope pos it (gEnv X scope s.heap.objs.size code)) s H (gEnv X scope s.heap.objs.size code) fp) ifs tt)
    (pe : PE (gcx X (gB Ag elt tg iter ifs scope pos it (gEnv X scope s.heap.objs.size code)) s H (gEnv X scope s.heap.objs.size code) fp) elt te)
    (tu : turns J gg tt te (own.map (·.2)) c.stp Fi En σ W) (w0 : W 0 m a H) (hmn : m < n) (os2 : t2.os = t.os) (bare2 : AllBare t2.gens) (kp2 : ∀ b o, t.heap.get? b = some o → t2.heap.get? b = some o) (cs2 : c.cs a t2.heap) :
    (GenState.fresh (.compStart (gG elt tg iter ifs scope pos) 0 (.ref it) .none (gEnv X scope s.heap.objs.size code))).Goes (model X.prog X.w) Ag
      (fun n s0 r s1 => r = .ok .next ∧ gR (gcx X (gB Ag elt tg iter ifs scope pos it (gEnv X scope s.heap.objs.size code)) s H (gEnv X scope s.heap.objs.size code) fp) c En n s0 s1)
      (gY (gcx X (gB Ag elt tg iter ifs scope pos it (gEnv X scope s.heap.objs.size code)) s H (gEnv X scope s.heap.objs.size code) fp) c Fi) n (.send .none) t2 := by
  obtain ⟨mm, ns⟩ := M.ns
  have I0 := gen_start (t := t2) (m := mm) M.inv ok nc hN M.fok ga_ (os2.trans M.os) bare2 (fun b o e => kp2 b o (M.kp b o e)) (ns.keeps kp2)
  have st0 : tn 0 t2.heap := M.turn.keep _ _ _ M.st fun b _ o e => kp2 b o e
  have nsl : ∀ b ∈ sl, H b = none := fun b hb => M.inv.hok.fresh (Nat.le_of_lt (hsl b hb))
  have nfp : ∀ b ∈ fp, H b = none := fun b hb => (M.fok b hb).1.1
  have loop := gen_loop (iter := iter) (scope := scope) (pos := pos) (Ag := Ag) (Fi := Fi) (En := En) (W := W) (σ := σ) (vs := own.map (·.2)) c rfl rfl rfl rfl M.turn
    (fun b hb hb2 => absurd (Nat.lt_trans (M.fok b hb).2 (hsl b hb2)) (Nat.lt_irrefl _))
    (fun b hb => ⟨Nat.ne_of_gt (hsl b hb), fun z => ?_, Nat.le_of_lt (hsl b hb), fun x cc e z => ?_⟩) pg pt pe hco rfl tu m n 0 a t2 t2 H hmn w0 I0 st0 nfp nsl cs2
  · refine ⟨rfl, ?_⟩
    show Seg _ Ag _ _ _ t2 _ ((compStart (gG elt tg iter ifs scope pos) 0 (.ref it) .none (gEnv X scope s.heap.objs.size code)).onRaise (leaving (gEnv X scope s.heap.objs.size code))) [] t2
    unfold compStart
    rw [Sem.onRaise_eq_wrap]
    show Seg _ Ag _ _ _ t2 _ ((ask >>= _).wrap _ _ _ _) [] t2
    refine seg_bind_wrap (wpAny_askSetting ?_)
    split
    · exact seg_again rfl loop
    · first
        | exact seg_bind_wrap (wpAny_rule (seg_bind_wrap (wpAny_standAt (seg_bind_wrap (M.turn.self _ 0 t2 _ _ st0 (seg_again rfl loop))))))
        | (refine seg_bind_wrap (wpAny_rule ?_); show Seg _ Ag _ _ _ t2 _ ((standAt iter.pos >>= _).wrap _ _ _ _) [] t2; exact seg_bind_wrap (wpAny_standAt (seg_bind_wrap (M.turn.self _ 0 t2 _ _ st0 (seg_again rfl loop)))))
  · obtain ⟨_, o, ho, _⟩ := M.inv.stack.mem (show b ∈ frs X.stack from z)
    exact absurd (Nat.lt_trans (Heap.lt_size ho) (hsl b hb)) (Nat.lt_irrefl _)
  · have lt := (I0.cell x cc e)
    obtain ⟨u, hu⟩ := lt
    have e' : (cloFrom X.env.cells scope.names []).lookup x = some cc := e
    rcases cloFrom_mem (PySem.mem_of_lookup e') with hm | ⟨h1, h2⟩
    · cases hm
    · have hfree : ∃ c1, X.env.cells.lookup x = some c1 := by
        rcases ok.free _ h1 rfl with q | q
        · exact M.inv.ok.has _ (.inl q)
        · exact M.inv.ok.has _ (.inr q)
      obtain ⟨c1, hc1⟩ := hfree
      rw [hc1] at h2
      have h2' : cc = c1 := h2
      obtain ⟨u1, z1⟩ := M.inv.cell _ _ hc1
      have := z1.lt
      rw [← h2', z] at this
      exact absurd (Nat.lt_trans this (hsl b hb)) (Nat.lt_irrefl _)
/-- back in the def -/
theorem gen_back {B : Around} {H H' : Hp} {s s' : Shared} {cenv : Env} {fp : List Addr} {ps : List (Addr × Obj)} {σ' : L2.St} {g : Nat} {x : GenState} (I : Inv X pins σ H s) (fok : ∀ b ∈ fp, FpOk X pins H b) (J : Inv (gcx X B s H cenv fp) ps σ' H' s') (hx : x.bare = true) :
    Inv X pins σ H' (s'.setGen g x) :=
  I.call' (ch := fp) (s' := s'.setGen g x) J.os J.base J.hok (allBare_setGen J.bare hx) fun b hb => ⟨(fok b hb).2.2.2.1, (fok b hb).2.1, (fok b hb).2.2.2.2.1, (fok b hb).2.2.2.2.2⟩
/-- all draws -/
def conA (ga g : Nat) (go : Bool) : Con Unit [ga] where
  stp := fun _ y => if y = .bl go then some () else none
  cs := fun _ h => h.IsGen ga g
  ob := fun _ h hc b hb => by
    obtain ⟨o, nm, qn, ho, h1, h2, h3⟩ := hc
    rw [List.mem_singleton.mp hb]
    exact ⟨o, ho, fun v z => by rw [h2] at z; cases z⟩
  kp := fun _ h h' hc k => by
    obtain ⟨o, nm, qn, ho, r⟩ := hc
    exact ⟨o, nm, qn, k _ (by simp) o ho, r⟩
theorem idle_set {s1 : Shared} {g : Nat} {x y : GenState} {ga : Addr} (hb : AllBare s1.gens) (hx : x.bare = true) (hy : y.bare = true) (hg : s1.heap.IsGen ga g) : Idle [ga] s1 ((s1.setGen g x).setGen g y) :=
  ⟨rfl, allBare_setGen (s := s1.setGen g x) (allBare_setGen hb hx) hy, fun _ _ _ e => e, fun b hb => by
    obtain ⟨o, nm, qn, ho, _⟩ := hg
    rw [List.mem_singleton.mp hb]
    exact ⟨o, ho⟩⟩
theorem all_loop {P : Program} {w : World} {A : Around} {Y : Cx} (hYP : Y.prog = P) (hYw : Y.w = w) {ga g : Nat} {Rr : Result → Shared → Prop} {Q : Bool → Hp → Prop} (hh : A.handled = none) (hd : A.depth < recursionLimit)
    (hE : ∀ ps σ H s1 h' x, x.bare = true → Inv Y ps σ H s1 → Q true H → (∀ b o, s1.heap.get? b = some o → h'.get? b = some o) → Rr (.ok (.ret (.bool true))) { s1.setGen g x with heap := h' })
    (hF : ∀ ps σ H s1 x, x.bare = true → Inv Y ps σ H s1 → Q false H → Rr (.ok (.ret (.bool false))) (s1.setGen g x)) :
    ∀ (n : Nat) (s : Shared), s.heap.IsGen ga g → s.heap.NoLimit →
      (∃ gs, s.gens[g]? = some gs ∧ gs.Goes (model P w) A.in1.in1 (fun n s0 r s1 => r = .ok .next ∧ gR Y (conA ga g true) (fun _ H => Q true H) n s0 s1) (gY Y (conA ga g true) fun _ y H => y = .bl false ∧ Q false H) n (.send .none) (s.setGen g .running)) →
      codeAny (model P w) A (.builtin "all.loop" ⟨[.ref ga], []⟩) Rr s := by
  subst hYP hYw
  intro n
  induction n with
  | zero =>
    intro s hg hl ⟨gs, hgs, hgo⟩
    refine codeAny_builtin F.entry_all_loop ?_
    rw [Around.under_plainId F.plain_all_loop _]
    show wpAny _ A.in1 (pyNext (.ref ga) >>= _) _ _ s
    refine wpAny_bind (wpAny_pyNext_genexpQ (A := A.in1) hh hl hd hg hgs hgo (fun v s1 gs' hb hv => ?_) fun s1 hp h' hk => ?_)
    · obtain ⟨a, y, ps, σ, H, ry, I, _, _, q⟩ := hv
      rcases q with ⟨_, rfl, q⟩ | ⟨a', q1, q2⟩
      · cases ry
        refine wpAny_bind (wpAny_holding (wpAny_truthy_bool ?_))
        refine wpAny_bind (wpAny_letGo ?_)
        simp only [Bool.false_eq_true, if_false]
        refine wpAny_bind (wpAny_rule (wpAny_pure ?_))
        exact hF ps σ H s1 gs' hb I q
      · have hi : s1.heap.IsGen ga g := by assumption
        exact (q2 _ (idle_set (x := .running) (y := .running) I.bare rfl rfl hi) hi).elim
    · obtain ⟨a, ps, σ, H, I, _, _, q⟩ := hp
      refine wpAny_bind (wpAny_rule (wpAny_pure ?_))
      exact hE ps σ H s1 h' .finished rfl I q hk
  | succ n ih =>
    intro s hg hl ⟨gs, hgs, hgo⟩
    have hgl : g < s.gens.size := (Array.getElem?_eq_some_iff.mp hgs).1
    refine codeAny_builtin F.entry_all_loop ?_
    rw [Around.under_plainId F.plain_all_loop _]
    show wpAny _ A.in1 (pyNext (.ref ga) >>= _) _ _ s
    refine wpAny_bind (wpAny_gsz (n := g + 1) hgl (wpAny_pyNext_genexpQ (A := A.in1) hh hl hd hg hgs hgo (fun v s1 gs' hb hv hsz => ?_) fun s1 hp h' hk hsz => ?_))
    · obtain ⟨a, y, ps, σ, H, ry, I, _, hi, q⟩ := hv
      rcases q with ⟨_, rfl, q⟩ | ⟨a', q1, q2⟩
      · cases ry
        refine wpAny_bind (wpAny_holding (wpAny_truthy_bool ?_))
        refine wpAny_bind (wpAny_letGo ?_)
        simp only [Bool.false_eq_true, if_false]
        refine wpAny_bind (wpAny_rule (wpAny_pure ?_))
        exact hF ps σ H s1 gs' hb I q
      · have ey : y = .bl true := by
          by_cases e : y = .bl true
          · exact e
          · have z : (conA ga g true).stp a y = none := if_neg e
            rw [z] at q1
            cases q1
        subst ey
        cases ry
        refine wpAny_bind (wpAny_holding (wpAny_truthy_bool ?_))
        refine wpAny_bind (wpAny_letGo ?_)
        simp only [if_true]
        have hi' : s1.heap.IsGen ga g := hi
        have hgl1 : g < s1.gens.size := by
          have e1 : (s1.setGen g gs').gens.size = s1.gens.size := setGen_size _ _ _
          omega
        refine wpAny_pure ⟨plainId_quiet F.plain_all_loop _, ih (s1.setGen g gs') hi' I.nolimit ⟨gs', setGen_at hgl1, ?_⟩⟩
        exact q2 _ (idle_set I.bare hb rfl hi') hi'
    · obtain ⟨a, ps, σ, H, I, _, _, q⟩ := hp
      refine wpAny_bind (wpAny_rule (wpAny_pure ?_))
      exact hE ps σ H s1 h' .finished rfl I q hk
end
end Mw

namespace Mw
open PySem PySem.Spec PyProof.Rows L2 GenW
/-! ### all(elt for tg in iter if ..) -/
abbrev stpA (go : Bool) : Unit → V → Option Unit := fun _ y => if y = .bl go then some () else none
def tAllG (P : Addr) (wi : TI) (g : TG) (tt : TT) (te : TE) (vs : List Nat) : TE := fun σ H Q => wi σ H fun J H1 => GxR.TabG H1 P ∧ ∀ H2, GxR.Tabbed P H1 H2 →
  ∃ W : Nat → Nat → Unit → Hp → Prop, (∃ m, W 0 m () H2) ∧ turns J g tt te vs (stpA true) (fun _ y H => y = .bl false ∧ Q (.bl false) H) (fun _ H => Q (.bl true) H) σ W
theorem boot_all : bootBuiltins "all" = some (.builtin "all") := by decide +kernel
section
variable {X : Cx}
/-- what a generator expression's parts are, in any frame of it -/
structure GParts (X : Cx) (elt tg iter : Expr) (ifs : List Expr) (scope : Scope) (own : List (Str × Nat)) (g : TG) (tt : TT) (te : TE) : Prop where
  ok : BlkOk X.N X.env.scope scope own
  nc : ∀ y ∈ scope.names, y.2 ≠ .cell
  co : scope.isCoroutine = false
  dot : scope.names.lookup (".0" : Str) = some NameKind.local
  hs : ∀ v, genFold iter X.env v = pure v
  pg : ∀ B s H C code fp, GA X (gEnv X scope C code) B → PG (gcx X B s H (gEnv X scope C code) fp) tg g
  pt : ∀ B s H C code fp, GA X (gEnv X scope C code) B → PTs (gcx X B s H (gEnv X scope C code) fp) ifs tt
  pe : ∀ B s H C code fp, GA X (gEnv X scope C code) B → PE (gcx X B s H (gEnv X scope C code) fp) elt te
theorem pe_allG {c P : Addr} {elt tg iter : Expr} {ifs : List Expr} {scope : Scope} {own : List (Str × Nat)} {p pos gpos : Pos} {wi : TI} {g : TG} {tt : TT} {te : TE} {k : Nat}
    (hr : Room k X.A) (hg : Gl X "all") (hm : X.mg "all" = none) (TB : GxR.TabB X.base X.mg c P) (hcode : X.env.code = .ref c) (hN : X.N.Nodup) (hi : PI X tg iter wi) (G : GParts X elt tg iter ifs scope own g tt te)
    (he : starEach [gG elt tg iter ifs scope gpos] X.env = (false, eval (gG elt tg iter ifs scope gpos) X.env) :: starEach [] X.env := by rfl) :
    PE X (.Call (.Name "all" p) [gG elt tg iter ifs scope gpos] [] pos) (tAllG P wi g tt te (own.map (·.2))) := by
  refine ⟨fun pins s σ H Q I h => ?_⟩
  refine wpAny_Call_Name_kw (ld_blt I hg hm boot_all ?_)
  refine PyProof.Rows.callWith_builtin1 ?_ he (by rfl)
  rw [he]
  show wpAny _ _ (spliced ((false, eval (gG elt tg iter ifs scope gpos) X.env) :: backTo pos (starEach [] X.env))) _ _ s
  refine Calls.spliced_cons (gen_eval (R := fun J H2 => ∃ W : Nat → Nat → Unit → Hp → Prop, (∃ m, W 0 m () H2) ∧ turns J g tt te (List.map (fun q : Str × Nat => q.2) own) (stpA true) (fun _ y H => y = .bl false ∧ Q (.bl false) H) (fun _ H => Q (.bl true) H) σ W)
    hr TB hcode hi G.ok G.nc G.co G.dot G.hs I h fun ga gn t it fp tn J H2 s2 code M hR => ?_)
  obtain ⟨W, ⟨m, w0⟩, tu⟩ := hR
  refine Calls.spliced_nil ?_
  refine call_function_tree F.kind_all F.plain_all F.entry_all (F.args_all1 _) ?_
  unfold Builtin.«all»
  refine wpAny_bind (m := oneArg "all" _) (wpAny_pure ?_)
  refine wpAny_bind (wpAny_pyIter_gen M.isg ?_)
  have ga_ : GA X (gEnv X scope s2.heap.objs.size code) (gB X.A.in1.in1 elt tg iter ifs scope gpos it (gEnv X scope s2.heap.objs.size code)) :=
    ga_of hr M.inv.ok.frames rfl rfl rfl rfl (by show X.A.units + 1 + 1 ≤ _; omega)
  have fok : ∀ b ∈ fp, FpOk X pins H2 b := fun b hb => (M.fok b hb).1
  refine wpAny_pure ⟨plainId_quiet F.plain_all_loop _, all_loop (Y := gcx X (gB X.A.in1.in1 elt tg iter ifs scope gpos it (gEnv X scope s2.heap.objs.size code)) s2 H2 (gEnv X scope s2.heap.objs.size code) fp) (Q := fun b H => Q (.bl b) H) rfl rfl hr.hd hr.depth
    (fun ps σ' H' s1 h' x hx J' q hk => ?_) (fun ps σ' H' s1 x hx J' q => ?_) (m + 1) t M.isg ?_ ⟨_, M.gen, ?_⟩⟩
  · refine ⟨.bl true, H', ?_, rfl, q⟩
    exact (gen_back M.inv fok J' hx).kept (t' := s1.toks) hk
  · exact ⟨.bl false, H', gen_back M.inv fok J' hx, rfl, q⟩
  · exact M.inv.nolimit.keeps M.kp
  · exact gen_goes (c := conA ga gn true) M hr G.ok G.nc hN G.co (fun b hb => by rw [List.mem_singleton.mp hb]; exact M.ga) ga_
      (G.pg _ _ _ _ _ _ ga_) (G.pt _ _ _ _ _ _ ga_) (G.pe _ _ _ _ _ _ ga_) tu w0 (Nat.lt_succ_self _) rfl (allBare_setGen M.bare rfl) (fun _ _ e => e) M.isg
end
end Mw

/-! MwTp: a tuple that is laid: by its items, or by its very object, which has no dict. -/
namespace Mw
open PySem PySem.Spec PyProof.Rows L2
def LayT (H : Hp) (xs : List V) (Q : VK) : Prop := (∀ p, H p = none → Q (.ref p) (upd H p (.tup xs))) ∨ ∀ (p : Addr) (o : Obj), H p = none → o.dict = none → Q (.ref p) (upd H p (.frz o (.tup xs)))
section
variable {X : Cx} {pins : List (Addr × Obj)} {σ : L2.St} {H : Hp} {s : Shared}
theorem lay_tup {xs : List V} {its : List Value} {t' : Nat} {Q : VK} (I : Inv X pins σ H s) (hv : Vals xs its) (hz : xs.length ≤ sizeLine) (h : LayT H xs Q) : EP X pins σ Q (.ref s.heap.objs.size) { s with heap := s.heap.push { cls := .type "tuple", data := .seq its.toArray }, toks := t' } := by
  have fr := I.hok.fresh (Nat.le_refl s.heap.objs.size)
  rcases h with h | h
  · exact ⟨.ref _, _, I.laid (t' := t') (o := .tup xs) (fun b ob q => Heap.get?_push_of_some _ q) (Nat.le_refl _) ⟨hz, its, hv, IsTup.new _ _⟩, rfl, h _ fr⟩
  · exact ⟨.ref _, _, I.laid (t' := t') (o := .frz { cls := .type "tuple", data := .seq its.toArray } (.tup xs)) (fun b ob q => Heap.get?_push_of_some _ q) (Nat.le_refl _) ⟨Heap.get?_push_size _ rfl, hz, its, hv, IsTup.new _ _⟩, rfl, h _ _ fr rfl⟩
end
section
variable {X : Cx} {es : List Expr} {t : TA} {pos : Pos}
def tTupF (t : TA) : TE := fun σ H Q => t σ H fun xs H1 => xs.length ≤ sizeLine ∧ LayT H1 xs Q
theorem pe_tupF {x1} (h : PA X es t) : PE X (.Tuple es x1 pos) (tTupF t) := by
  refine ⟨fun pins s σ H Q I hq => ?_⟩
  refine wpAny_Tuple_spliced (thn (h.run pos pins s σ H _ I hq) fun us s1 ⟨xs, H1, I1, r, z, q⟩ => ⟨by rw [← r.length]; exact z, ?_⟩)
  exact lay_tup (t' := s1.toks) I1 r z q
/-! ### t + u -/
def rCatF (K : PySem.W.Frag) : R2 := fun x y H Q => ∃ a b xs ys, x = .ref a ∧ y = .ref b ∧ SqT K H a xs ∧ SqT K H b ys ∧ xs.length + ys.length ≤ sizeLine ∧
  (xs = [] → Q (.ref b) H) ∧ (xs ≠ [] → ys = [] → Q (.ref a) H) ∧ (xs ≠ [] → ys ≠ [] → LayT H (xs ++ ys) Q)
theorem op_catF : OpR X (binaryOp .Add) (rCatF X.K) := by
  intro pins s σ H x y v u Q I rx ry h
  obtain ⟨a, b, xs, ys, rfl, rfl, ha, hb, hz, q0, q1, q2⟩ := h
  by_cases hx : xs = []
  · subst hx
    cases rx
    cases ry
    obtain ⟨its, r1, p1, _⟩ := I.tuple ha
    obtain ⟨its2, r2, p2, _⟩ := I.tuple hb
    cases r1
    exact cat_tup0 p1 p2 ⟨.ref b, H, I, rfl, q0 rfl⟩
  · cases rx
    cases ry
    obtain ⟨its, r1, p1, _⟩ := I.tuple ha
    obtain ⟨its2, r2, p2, _⟩ := I.tuple hb
    refine HT.cat_tup p1 p2 (fun z => hx (r1.nil_iff.mp z)) (fun z => ⟨.ref a, H, I, rfl, q1 hx (r2.nil_iff.mp z)⟩) (fun z => ?_) (by rw [← r1.length, ← r2.length]; exact hz)
    exact lay_tup (t' := s.toks) I (r1.append r2) (by rw [List.length_append]; exact hz) (q2 hx fun w => z (r2.nil_iff.mpr w))
/-! ### t[lo:hi] -/
def rSlF (K : PySem.W.Frag) : V → Option Int → Option Int → Hp → VK → Prop := fun x lo hi H Q => ∃ a xs, x = .ref a ∧ SqT K H a xs ∧
  (HT.sIx xs.length 0 lo = 0 ∧ HT.sIx xs.length xs.length hi = xs.length → Q (.ref a) H) ∧ (¬ (HT.sIx xs.length 0 lo = 0 ∧ HT.sIx xs.length xs.length hi = xs.length) → LayT H (cutV xs lo hi) Q)
theorem sl_tupF : L2.SlR X (rSlF X.K) := by
  intro pins s σ H x v vl vu lo hi sl Q I rx hs pl pu h
  obtain ⟨a, xs, rfl, hx, q1, q2⟩ := h
  cases rx
  obtain ⟨its, r, ht, hz⟩ := I.tuple hx
  have hlen : its.toArray.size = xs.length := by rw [List.size_toArray]; exact r.length.symm
  refine ⟨"tuple", _, PyProof.Rows.slot_tuple_getitem.lookup, ht.typeIs, ?_⟩
  by_cases hw : HT.sIx xs.length 0 lo = 0 ∧ HT.sIx xs.length xs.length hi = xs.length
  · exact getItem_tuple_whole ht hs pl pu (by rw [hlen]; exact hw) ⟨.ref a, H, I, rfl, q1 hw⟩
  · refine HT.getItem_tuple_cut ht hs pl pu (by rw [hlen]; exact hw) ?_ (by rw [hlen]; exact hz)
    rw [hlen]
    exact lay_tup (t' := s.toks) I ((r.drop (HT.sIx xs.length 0 lo)).take (HT.sIx xs.length xs.length hi - HT.sIx xs.length 0 lo)) (Nat.le_trans (cutV_length xs lo hi) hz) (q2 hw)
/-! ### tuple(l) -/
def rTupleF (K : PySem.W.Frag) : List V → Hp → VK → Prop := fun xs H Q => ∃ p ys, xs = [.ref p] ∧ ((SqL K H p ys ∧ LayT H ys Q) ∨ (SqT K H p ys ∧ Q (.ref p) H))
theorem call_tupleF : CallR X (.type "tuple") (rTupleF X.K) := by
  intro pins s σ H xs us Q I r h
  obtain ⟨p, ys, rfl, h⟩ := h
  obtain ⟨u, rfl, rx⟩ := vals1 r
  cases rx
  rcases h with ⟨hq, q⟩ | ⟨hq, q⟩
  · obtain ⟨its, r', pl, hz⟩ := I.list hq
    have hlen := r'.length
    refine call_tuple_list pl.isList (fun h' kp => ?_) (by simp only [List.size_toArray] <;> omega)
    have I1 : Inv X pins σ H { s with heap := h' } := I.kept (t' := s.toks) kp
    exact lay_tup (t' := s.toks) I1 r' hz q
  · obtain ⟨its, r', pl, hz⟩ := I.tuple hq
    exact call_tuple_same pl ⟨.ref p, H, I, rfl, q⟩
/-! ### t.m(..), t a tuple whose object is known -/
def tBMT (r : V → List V → Hp → VK → Prop) (to : TE) (t : TA) : TE := fun σ H Q => to σ H fun x H1 => (∃ (a : Addr) (o : Obj) (ys : List V), x = .ref a ∧ H1 a = some (.frz o (.tup ys)) ∧ o.dict = none) ∧ t σ H1 fun xs H2 => r x xs H2 Q
theorem pe_bmT {o e : Expr} {es : List Expr} {to : TE} {t : TA} {name : Str} {apos cpos : Pos} {id : String} {r : V → List V → Hp → VK → Prop} (slot : Slot "tuple" name id) (hty : typeOf (.builtin id) = pure (.type "method_descriptor")) (hm : MtR X id r) (ho : PE X o to) (ha : PA X (e :: es) t)
    (hbase : attributeBase o name X.env (eval o X.env) = eval o X.env := by rfl)
    (hfew : ((backTo cpos (starEach (e :: es) X.env)).all (fun x => !x.1) && (backToKw cpos (keywordEach [] X.env)).all (fun x => x.1.isSome)
      && decide ((e :: es).length + ([] : List Keyword).length + (if ([] : List Keyword).isEmpty then 0 else 1) < 30)) = true := by rfl)
    (hline : (apos.endLine == cpos.line) = true := by rfl) (hs : starEach (e :: es) X.env = (false, eval e X.env) :: starEach es X.env := by rfl) (hplain : (backTo cpos (starEach es X.env)).any (·.1) = false := by rfl) :
    PE X (.Call (.Attribute o name apos) (e :: es) [] cpos) (tBMT r to t) := by
  refine ⟨fun pins s σ H Q I h => ?_⟩
  refine wpAny_Call_method_late hbase hfew hline rfl (thn (ho.run pins s σ H _ I h) fun v s1 ⟨x, H1, I1, r1, ⟨a, ob, ys, ex, hf, hd⟩, q1⟩ => ?_)
  subst ex
  obtain rfl : v = Value.ref a := r1
  obtain ⟨e1, hz, its, rv, pl⟩ := I1.hok a _ hf
  refine ⟨"tuple", id, PySem.F.plainAttrs_tuple, slot, hty, IsTup.typeIs (s := s1) pl, fun b eb => ?_, ?_⟩
  · cases eb
    exact ⟨ob, e1, hd⟩
  have hA := ha.run cpos pins s1 σ H1 _ I1 q1
  rw [hs] at hA ⊢
  refine Calls.callWith_builtin (by show (false || (backTo cpos (starEach es X.env)).any (·.1)) = false; rw [hplain] <;> rfl) (Calls.evalArgs_plain ?_)
  exact thn hA fun us s2 ⟨vs, H2, I2, r2, q2⟩ => hm pins s2 σ H2 (.ref a) vs (.ref a) us Q I2 rfl r2 q2
end
end Mw

namespace Mw
open PySem PySem.Spec PyProof.Rows L2 GenW
/-! ### tuple(elt for tg in iter if ..) -/
abbrev stpL : List V → V → Option (List V) := fun a y => if a.length < sizeLine then some (a ++ [y]) else none
def conL (S ga g : Nat) : Con (List V) [S, ga] where
  stp := stpL
  cs := fun a h => h.IsGen ga g ∧ a.length ≤ sizeLine ∧ ∃ acc c, h.get? S = some (lstObj acc c) ∧ Vals a acc.toList
  ob := fun a h hc b hb => by
    obtain ⟨⟨o, nm, qn, ho, h1, h2, h3⟩, _, acc, c, hS, _⟩ := hc
    rcases List.mem_cons.mp hb with e | hb
    · rw [e]; exact ⟨_, hS, fun v z => by cases z⟩
    · rw [List.mem_singleton.mp hb]
      exact ⟨o, ho, fun v z => by rw [h2] at z; cases z⟩
  kp := fun a h h' hc k => by
    obtain ⟨⟨o, nm, qn, ho, r⟩, hl, acc, c, hS, rv⟩ := hc
    exact ⟨⟨o, nm, qn, k _ (by simp) o ho, r⟩, hl, acc, c, k _ (by simp) _ hS, rv⟩
theorem ext_loop {P : Program} {w : World} {A : Around} {Y : Cx} (hYP : Y.prog = P) (hYw : Y.w = w) {S ga g : Nat} {res : Value} {Rr : Result → Shared → Prop} {Q : List V → Hp → Prop} (hh : A.handled = none) (hd : A.depth < recursionLimit) (hSa : S ≠ ga) (hSc : S ≠ cStatics)
    (hE : ∀ ps σ H s1 h' x ys acc c, x.bare = true → Inv Y ps σ H s1 → Q ys H → ys.length ≤ sizeLine → s1.heap.get? S = some (lstObj acc c) → Vals ys acc.toList → (∀ b o, s1.heap.get? b = some o → h'.get? b = some o) → Rr (.ok (.ret res)) { s1.setGen g x with heap := h' }) :
    ∀ (n : Nat) (s : Shared), s.heap.IsGen ga g → s.heap.NoLimit →
      (∃ gs, s.gens[g]? = some gs ∧ gs.Goes (model P w) A.in1.in1 (fun n s0 r s1 => r = .ok .next ∧ gR Y (conL S ga g) Q n s0 s1) (gY Y (conL S ga g) fun _ _ _ => False) n (.send .none) (s.setGen g .running)) →
      codeAny (model P w) A (.builtin "list.extend.loop" ⟨[.ref S, .ref ga, res], []⟩) Rr s := by
  subst hYP hYw
  have idl : ∀ {s1 : Shared} {gs' : GenState} {acc : Array Value} {c : Nat} {v : Value}, AllBare s1.gens → gs'.bare = true → s1.heap.IsGen ga g → s1.heap.get? S = some (lstObj acc c) →
      Idle [S, ga] s1 (({ s1.setGen g gs' with heap := s1.heap.update S (Obj.mapSeq (·.push v)) } : Shared).setGen g .running) := fun {s1 gs' acc c v} hb hx hg hS => by
    refine ⟨rfl, allBare_setGen (s := s1.setGen g gs') (allBare_setGen hb hx) rfl, fun b o hn e => ?_, fun b hb => ?_⟩
    · exact (Heap.get?_update_other _ _ (Ne.symm fun z => hn (by simp [z]))).trans e
    · rcases List.mem_cons.mp hb with e | hb
      · rw [e]; exact ⟨_, Heap.get?_update_self (Obj.mapSeq (·.push v)) hS rfl⟩
      · obtain ⟨o, nm, qn, ho, _⟩ := hg
        rw [List.mem_singleton.mp hb]
        exact ⟨o, (Heap.get?_update_other _ _ hSa).trans ho⟩
  have pushd : ∀ {s1 : Shared} {gs' : GenState} {acc : Array Value} {c : Nat} {a : List V} {y : V} {v : Value}, s1.heap.IsGen ga g → s1.heap.get? S = some (lstObj acc c) → Vals a acc.toList → RelV y v → a.length < sizeLine →
      (conL S ga g).cs (a ++ [y]) (s1.heap.update S (Obj.mapSeq (·.push v))) := fun {s1 gs' acc c a y v} hg hS rv ry hl => by
    obtain ⟨o, nm, qn, ho, r⟩ := hg
    refine ⟨⟨o, nm, qn, (Heap.get?_update_other _ _ hSa).trans ho, r⟩, by rw [List.length_append, List.length_singleton]; omega, acc.push v, _, Heap.get?_update_self (Obj.mapSeq (·.push v)) hS rfl, ?_⟩
    rw [Array.toList_push]
    exact rv.append (.cons ry .nil)
  intro n
  induction n with
  | zero =>
    intro s hg hl ⟨gs, hgs, hgo⟩
    refine codeAny_builtin F.entry_extend_loop ?_
    rw [Around.under_plainId F.plain_extend_loop _]
    show wpAny _ A.in1 (pyNext (.ref ga) >>= _) _ _ s
    refine wpAny_bind (wpAny_pyNext_genexpQ (A := A.in1) hh hl hd hg hgs hgo (fun v s1 gs' hb hv => ?_) fun s1 hp h' hk => ?_)
    · obtain ⟨a, y, ps, σ, H, ry, I, _, hcs, q⟩ := hv
      obtain ⟨hi, hla, acc, c, hS, rv⟩ := hcs
      rcases q with ⟨_, q⟩ | ⟨a', q1, q2⟩
      · exact q.elim
      · have hlt : a.length < sizeLine := by
          by_cases z : a.length < sizeLine
          · exact z
          · have q1' : (if a.length < sizeLine then some (a ++ [y]) else none) = some a' := q1
            rw [if_neg z] at q1'
            cases q1'
        have ea : a' = a ++ [y] := by
          have q1' : (if a.length < sizeLine then some (a ++ [y]) else none) = some a' := q1
          rw [if_pos hlt] at q1'
          exact (Option.some.inj q1').symm
        subst ea
        exact (q2 _ (idl (v := v) (gs' := gs') I.bare hb hi hS) (pushd (gs' := gs') hi hS rv ry hlt)).elim
    · obtain ⟨a, ps, σ, H, I, _, ⟨hi, hla, acc, c, hS, rv⟩, q⟩ := hp
      exact wpAny_pure (hE ps σ H s1 h' .finished a acc c rfl I q hla hS rv hk)
  | succ n ih =>
    intro s hg hl ⟨gs, hgs, hgo⟩
    have hgl : g < s.gens.size := (Array.getElem?_eq_some_iff.mp hgs).1
    refine codeAny_builtin F.entry_extend_loop ?_
    rw [Around.under_plainId F.plain_extend_loop _]
    show wpAny _ A.in1 (pyNext (.ref ga) >>= _) _ _ s
    refine wpAny_bind (wpAny_gsz (n := g + 1) hgl (wpAny_pyNext_genexpQ (A := A.in1) hh hl hd hg hgs hgo (fun v s1 gs' hb hv hsz => ?_) fun s1 hp h' hk hsz => ?_))
    · obtain ⟨a, y, ps, σ, H, ry, I, _, hcs, q⟩ := hv
      obtain ⟨hi, hla, acc, c, hS, rv⟩ := hcs
      rcases q with ⟨_, q⟩ | ⟨a', q1, q2⟩
      · exact q.elim
      · have hlt : a.length < sizeLine := by
          by_cases z : a.length < sizeLine
          · exact z
          · have q1' : (if a.length < sizeLine then some (a ++ [y]) else none) = some a' := q1
            rw [if_neg z] at q1'
            cases q1'
        have ea : a' = a ++ [y] := by
          have q1' : (if a.length < sizeLine then some (a ++ [y]) else none) = some a' := q1
          rw [if_pos hlt] at q1'
          exact (Option.some.inj q1').symm
        subst ea
        have hsa : acc.size < sizeLine := by
          have e1 : a.length = acc.toList.length := rv.length
          have e2 : acc.toList.length = acc.size := Array.length_toList ..
          omega
        have hgl1 : g < s1.gens.size := by
          have e1 : (s1.setGen g gs').gens.size = s1.gens.size := setGen_size _ _ _
          omega
        show wpAny _ A.in1 (updateSeq S (·.push v) >>= _) _ _ _
        refine wpAny_bind ?_
        refine wpAny_updateSeq hS rfl (wpAny_pure ⟨plainId_quiet F.plain_extend_loop _, ?_⟩) (Nat.le_of_lt hsa) (by show (acc.push v).size ≤ sizeLine + 1; rw [Array.size_push]; omega)
        have cs' := pushd (gs' := gs') hi hS rv ry hlt
        refine ih { s1.setGen g gs' with heap := s1.heap.update S (Obj.mapSeq (·.push v)) } cs'.1 ?_ ⟨gs', setGen_at hgl1, ?_⟩
        · obtain ⟨mc, hns, hnn⟩ := I.nolimit
          exact ⟨mc, hns.at' fun o e => (Heap.get?_update_other _ _ hSc).trans e, hnn⟩
        · exact q2 _ (idl (v := v) I.bare hb hi hS) cs'
    · obtain ⟨a, ps, σ, H, I, _, ⟨hi, hla, acc, c, hS, rv⟩, q⟩ := hp
      exact wpAny_pure (hE ps σ H s1 h' .finished a acc c rfl I q hla hS rv hk)
section
variable {P : Program} {w : World} {A : Around} {E : Value → Shared → Prop} {s : Shared}
theorem collect_gen {ga g : Nat} {R : List Value → Shared → Prop} (hg : s.heap.IsGen ga g)
    (loop : ∀ (h' : Heap) (c : Nat), (∀ b o, s.heap.get? b = some o → h'.get? b = some o) → h'.get? s.heap.objs.size = some (lstObj #[] c) →
      codeAny (model P w) A (.builtin "list.extend.loop" ⟨[.ref s.heap.objs.size, .ref ga, .ref s.heap.objs.size], []⟩) (fun r s' => r = .ok (.ret (.ref s.heap.objs.size)) ∧ ∃ acc c, s'.heap.get? s.heap.objs.size = some (lstObj acc c) ∧ R acc.toList s') { s with heap := h' }) :
    wpAny (model P w) A (collect (.ref ga)) R E s := by
  have hga : ga < s.heap.objs.size := let ⟨_, _, _, ho, _⟩ := hg; Heap.lt_size ho
  have hSa : s.heap.objs.size ≠ ga := Nat.ne_of_gt hga
  unfold collect
  refine wpAny_bind (wpAny_runValue (codeAny_builtin F.entry_proto_collect ?_))
  rw [Around.under_plainId F.plain_proto_collect _]
  show wpAny _ A.in1 (newList [] >>= fun l => again (.builtin "list.__iadd__" ⟨[l, .ref ga], []⟩)) _ _ s
  refine wpAny_bind (wpAny_newObj_type ?_)
  refine wpAny_pure ⟨plainId_quiet F.plain_list_iadd _, codeAny_builtin F.entry_list_iadd ?_⟩
  rw [Around.under_plainId F.plain_list_iadd _]
  show wpAny _ A.in1 (Builtin.List.listExtendWith (.ref s.heap.objs.size) (.ref ga) (.ref s.heap.objs.size)) _ _ _
  have hS : (s.heap.push { cls := .type "list", data := .seq ([] : List Value).toArray }).get? s.heap.objs.size = some { cls := .type "list", data := .seq #[] } := Heap.get?_push_size _ rfl
  have up : ∀ (h : Heap) (f : Obj → Obj), (∀ b o, s.heap.get? b = some o → h.get? b = some o) → ∀ b o, s.heap.get? b = some o → (h.update s.heap.objs.size f).get? b = some o := fun h f q b o e =>
    (Heap.get?_update_other _ _ (Ne.symm (Nat.ne_of_lt (Heap.lt_size e)))).trans (q b o e)
  have k1 : ∀ b o, s.heap.get? b = some o → (s.heap.push { cls := .type "list", data := .seq ([] : List Value).toArray }).get? b = some o := fun b o e => Heap.get?_push_of_some _ e
  have gty : ∀ {h : Heap}, (∀ b o, s.heap.get? b = some o → h.get? b = some o) → h.IsGen ga g := fun {h} q => hg.keeps q
  unfold Builtin.List.listExtendWith
  refine wpAny_bind (wpAny_typeOf (Heap.IsGen.typeIs (s := { s with heap := _ }) (gty k1)) ?_)
  have h1 : Builtin.List.listSameRef (.ref s.heap.objs.size) (.ref ga) = false := by simp [Builtin.List.listSameRef, hSa]
  have h2 : (Value.type "generator" == Value.type "list") = false := by decide
  have h3 : (Value.type "generator" == Value.type "tuple") = false := by decide
  simp only [h1, h2, h3, Bool.or_false, Bool.false_eq_true, if_false]
  refine wpAny_bind (wpAny_pyIter_gen (s := { s with heap := _ }) (gty k1) ?_)
  refine wpAny_bind (wpAny_holding ?_)
  unfold Builtin.List.listLengthHint
  refine wpAny_bind (wpAny_specialOf (Heap.IsGen.typeIs (s := { s with heap := _ }) (gty k1)) F.gen_no_len ?_)
  show wpAny _ A.in1 (specialOf (Value.ref ga) (Str.ofString "__length_hint__") >>= _) _ _ _
  refine wpAny_bind (wpAny_specialOf (Heap.IsGen.typeIs (s := { s with heap := _ }) (gty k1)) F.gen_no_hint ?_)
  refine wpAny_pure ?_
  show wpAny _ A.in1 (rule "list.extend.makes-room" >>= fun _ => Builtin.List.listTouch (.ref s.heap.objs.size) >>= fun _ =>
    again (.builtin "list.extend.loop" ⟨[.ref s.heap.objs.size, .ref ga, .ref s.heap.objs.size], []⟩)) _ _ _
  refine wpAny_bind (wpAny_rule ?_)
  refine wpAny_bind ?_
  show wpAny _ A.in1 (updateSeq s.heap.objs.size (·.push .none) >>= fun _ => updateSeq s.heap.objs.size (·.pop)) _ _ _
  refine wpAny_bind (wpAny_updateSeq hS rfl ?_)
  have hS3 := Heap.get?_update_self (Obj.mapSeq (·.push Value.none)) hS rfl
  refine wpAny_updateSeq (hz := by seq_fits) hS3 rfl ?_
  have hS4 := Heap.get?_update_self (Obj.mapSeq (·.pop)) hS3 rfl
  have k4 := up _ (Obj.mapSeq (·.pop)) (up _ (Obj.mapSeq (·.push Value.none)) k1)
  refine wpAny_pure ⟨plainId_quiet F.plain_extend_loop _, codeAny_mono (loop _ _ k4 hS4) fun rr s'' hr' => ?_⟩
  obtain ⟨rfl, acc, c', hS', hi⟩ := hr'
  show wpAny _ A (load s.heap.objs.size >>= _) _ _ _
  exact wpAny_bind (wpAny_load hS' (wpAny_pure hi))
theorem call_tuple_gen {ga g : Nat} {Q : Value → Shared → Prop} (hg : s.heap.IsGen ga g)
    (loop : ∀ (h' : Heap) (c : Nat), (∀ b o, s.heap.get? b = some o → h'.get? b = some o) → h'.get? s.heap.objs.size = some (lstObj #[] c) →
      codeAny (model P w) A.in1.in1 (.builtin "list.extend.loop" ⟨[.ref s.heap.objs.size, .ref ga, .ref s.heap.objs.size], []⟩) (fun r s' => r = .ok (.ret (.ref s.heap.objs.size)) ∧ ∃ acc c, s'.heap.get? s.heap.objs.size = some (lstObj acc c) ∧ acc.size ≤ sizeLine ∧
        Q (.ref s'.heap.objs.size) { s' with heap := s'.heap.push { cls := .type "tuple", data := .seq acc } }) { s with heap := h' }) :
    wpAny (model P w) A (call (.type "tuple") [.ref ga]) Q E s := by
  refine callType_codes (Q₁ := fun obj s₁ => s₁.TypeIs obj "tuple" ∧ Q obj s₁) F.called_tuple (F.typeCall_tuple_1 _) F.entry_object_init ?_ fun obj s₁ h₁ =>
    ⟨h₁.1, F.args_object_init_2 obj _, object_init_meets F.called_tuple.init.lookup F.called_tuple.made (by decide) P w A.in1 _ s₁ ⟨h₁.1, rfl, h₁.2⟩⟩
  refine codeAny_of_tree ?_
  show wpAny _ A.in1.in1 (do checkBuiltinCall "tuple.__new__" ⟨[.type "tuple", .ref ga], []⟩; again (.builtin "tuple.__new__" ⟨[.type "tuple", .ref ga], []⟩)) _ _ s
  refine wpAny_bind (wpAny_of_eq (F.newCall_tuple_1 _) (wpAny_pure ⟨plainId_quiet F.plain_tuple_new _, codeAny_builtin F.entry_tuple_new ?_⟩))
  rw [Around.under_plainId F.plain_tuple_new _]
  have hsub := sub_tuple_self
  have hinit := init_tuple_lookup
  have hmh := madeHere_tuple
  have hTI : s.TypeIs (.ref ga) "generator" := hg.typeIs
  wp_walk using wpAny_typeOf hTI, collect_gen (A := A.in1.in1) hg
  intro h' c kp hS
  refine codeAny_mono (loop h' c kp hS) fun r s' x => ?_
  obtain ⟨e, acc, c', hS', hz, q⟩ := x
  refine ⟨e, acc, c', hS', ?_⟩
  show wpAny _ _ (Builtin.Tuple.tupleExact acc.toList.toArray >>= fun v => ret v) _ _ _
  unfold Builtin.Tuple.tupleExact
  refine wpAny_bind (wpAny_newObj_type ?_ (by show acc.toList.toArray.size ≤ sizeLine; simp only [Array.toArray_toList]; exact hz))
  refine wpAny_pure ?_
  have e : acc.toList.toArray = acc := by simp
  rw [e]
  exact ⟨⟨_, Heap.get?_push_size _ rfl, rfl⟩, q⟩
end
def tTupG (P : Addr) (wi : TI) (g : TG) (tt : TT) (te : TE) (vs : List Nat) : TE := fun σ H Q => wi σ H fun J H1 => GxR.TabG H1 P ∧ ∀ H2, GxR.Tabbed P H1 H2 →
  ∃ W : Nat → Nat → List V → Hp → Prop, (∃ m, W 0 m [] H2) ∧ turns J g tt te vs stpL (fun _ _ _ => False) (fun ys H => LayT H ys Q) σ W
section
variable {X : Cx}
theorem pe_tupG {c P : Addr} {elt tg iter : Expr} {ifs : List Expr} {scope : Scope} {own : List (Str × Nat)} {p pos gpos : Pos} {wi : TI} {g : TG} {tt : TT} {te : TE} {k : Nat}
    (hr : Room k X.A) (hg : Gl X "tuple") (hm : X.mg "tuple" = none) (TB : GxR.TabB X.base X.mg c P) (hcode : X.env.code = .ref c) (hN : X.N.Nodup) (hi : PI X tg iter wi) (G : GParts X elt tg iter ifs scope own g tt te)
    (he : starEach [gG elt tg iter ifs scope gpos] X.env = (false, eval (gG elt tg iter ifs scope gpos) X.env) :: starEach [] X.env := by rfl) :
    PE X (.Call (.Name "tuple" p) [gG elt tg iter ifs scope gpos] [] pos) (tTupG P wi g tt te (own.map (·.2))) := by
  refine ⟨fun pins s σ H Q I h => ?_⟩
  refine wpAny_Call_Name_kw (ld_blt I hg hm (show bootBuiltins "tuple" = some (.type "tuple") by decide +kernel) ?_)
  refine PyProof.Rows.callWith_type1 ?_ he rfl
  rw [he]
  show wpAny _ _ (spliced ((false, eval (gG elt tg iter ifs scope gpos) X.env) :: backTo pos (starEach [] X.env))) _ _ s
  refine Calls.spliced_cons (gen_eval (R := fun J H2 => ∃ W : Nat → Nat → List V → Hp → Prop, (∃ m, W 0 m [] H2) ∧ turns J g tt te (List.map (fun q : Str × Nat => q.2) own) stpL (fun _ _ _ => False) (fun ys H => LayT H ys Q) σ W)
    hr TB hcode hi G.ok G.nc G.co G.dot G.hs I h fun ga gn t it fp tn J H2 s2 code M hR => ?_)
  obtain ⟨W, ⟨m, w0⟩, tu⟩ := hR
  refine Calls.spliced_nil ?_
  have hgat : ga < t.heap.objs.size := let ⟨_, _, _, ho, _⟩ := M.isg; Heap.lt_size ho
  have nl : t.heap.NoLimit := M.inv.nolimit.keeps M.kp
  have hcl : cStatics < t.heap.objs.size := let ⟨_, hn, _⟩ := nl; hn.lt
  have ga_ : GA X (gEnv X scope s2.heap.objs.size code) (gB X.A.in1.in1.in1.in1 elt tg iter ifs scope gpos it (gEnv X scope s2.heap.objs.size code)) :=
    ga_of hr M.inv.ok.frames rfl rfl rfl rfl (by show X.A.units + 1 + 1 + 1 + 1 ≤ _; omega)
  have fok : ∀ b ∈ fp, FpOk X pins H2 b := fun b hb => (M.fok b hb).1
  refine call_tuple_gen M.isg fun h' c' kp hS => ?_
  refine ext_loop (Y := gcx X (gB X.A.in1.in1.in1.in1 elt tg iter ifs scope gpos it (gEnv X scope s2.heap.objs.size code)) s2 H2 (gEnv X scope s2.heap.objs.size code) fp) (Q := fun ys H => LayT H ys Q) rfl rfl
    (show X.A.in1.in1.handled = none from hr.hd) (show X.A.in1.in1.depth < _ from hr.depth) (Nat.ne_of_gt hgat) (Nat.ne_of_gt hcl)
    (fun ps σ' H' s1 h1 x ys acc cc hx J' q hl hS1 rv hk => ⟨rfl, acc, cc, hk _ _ hS1, ?sz, ?inv⟩) (m + 1) { t with heap := h' } (M.isg.keeps kp) (nl.keeps kp) ⟨_, M.gen, ?go⟩
  case sz =>
    have e1 : ys.length = acc.toList.length := rv.length
    have e2 : acc.toList.length = acc.size := Array.length_toList ..
    omega
  case inv =>
    have I1 : Inv X pins σ H' { s1.setGen gn x with heap := h1 } := (gen_back M.inv fok J' hx).kept (t' := s1.toks) hk
    have z := lay_tup (t' := s1.toks) I1 rv hl q
    rw [Array.toArray_toList] at z
    exact z
  case go =>
    refine gen_goes (c := conL t.heap.objs.size ga gn) (t2 := ({ t with heap := h' } : Shared).setGen gn .running) M hr G.ok G.nc hN G.co (fun b hb => ?_) ga_ (G.pg _ _ _ _ _ _ ga_) (G.pt _ _ _ _ _ _ ga_) (G.pe _ _ _ _ _ _ ga_) tu w0 (Nat.lt_succ_self _) rfl (allBare_setGen (s := { t with heap := h' }) M.bare rfl) (fun b o e => kp b o e) ?_
    · rcases List.mem_cons.mp hb with e | hb
      · rw [e]; exact Nat.lt_trans M.ga hgat
      · rw [List.mem_singleton.mp hb]; exact M.ga
    · exact ⟨M.isg.keeps kp, Nat.zero_le _, #[], c', hS, .nil⟩
end
end Mw

namespace Mw
open PySem PySem.Spec PyProof.Rows L2
/-! ### data in the heap, kept -/
/-- lists, tuples, locked things stay -/
def Kd (H H' : Hp) : Prop := ∀ b o, H b = some o → ((∃ xs, o = .lst xs) ∨ (∃ xs, o = .tup xs) ∨ ∃ ob u, o = .frz ob u) → H' b = some o
theorem Kd.refl (H : Hp) : Kd H H := fun _ _ e _ => e
theorem Kd.trans {H H1 H2 : Hp} (a : Kd H H1) (b : Kd H1 H2) : Kd H H2 := fun c o e z => b c o (a c o e z) z
theorem Kd.new {H : Hp} {p : Addr} {o : HO} (n : H p = none) : Kd H (upd H p o) := fun b u e _ => by rw [upd_ne (ne_of_none e n)]; exact e
theorem Kd.over {H : Hp} {p : Addr} {o u : HO} (e : H p = some u) (h1 : ∀ xs, u ≠ .lst xs) (h2 : ∀ xs, u ≠ .tup xs) (h3 : ∀ ob y, u ≠ .frz ob y) : Kd H (upd H p o) := fun b z eb k => by
  have nb : b ≠ p := fun q => by
    rw [q, e] at eb
    cases eb
    rcases k with ⟨xs, k⟩ | ⟨xs, k⟩ | ⟨ob, y, k⟩
    · exact h1 xs k
    · exact h2 xs k
    · exact h3 ob y k
  rw [upd_ne nb]
  exact eb
theorem Same.kd {H H' : Hp} (s : Same H H') : Kd H H' := fun b o e _ => s b o e
theorem Kd.sqL {K : PySem.W.Frag} {H H' : Hp} {a : Addr} {xs : List V} (k : Kd H H') (h : SqL K H a xs) : SqL K H' a xs := by
  rcases h with (h | ⟨o, h⟩) | h
  · exact .inl (.inl (k _ _ h (.inl ⟨xs, rfl⟩)))
  · exact .inl (.inr ⟨o, k _ _ h (.inr (.inr ⟨_, _, rfl⟩))⟩)
  · exact .inr h
theorem Kd.sqT {K : PySem.W.Frag} {H H' : Hp} {a : Addr} {xs : List V} (k : Kd H H') (h : SqT K H a xs) : SqT K H' a xs := by
  rcases h with (h | ⟨o, h⟩) | h
  · exact .inl (.inl (k _ _ h (.inr (.inl ⟨xs, rfl⟩))))
  · exact .inl (.inr ⟨o, k _ _ h (.inr (.inr ⟨_, _, rfl⟩))⟩)
  · exact .inr h
mutual
theorem Kd.dp {K : PySem.W.Frag} {H H' : Hp} (k : Kd H H') : ∀ {d : PyData} {v : V}, Dp K H v d → Dp K H' v d
  | _, _, .non => .non
  | _, _, .bl b => .bl b
  | _, _, .int i => .int i
  | _, _, .str x => .str x
  | _, _, .lst h a => .lst (k.sqL h) (k.dpAll a)
  | _, _, .tup h a => .tup (k.sqT h) (k.dpAll a)
theorem Kd.dpAll {K : PySem.W.Frag} {H H' : Hp} (k : Kd H H') : ∀ {ds : List PyData} {vs : List V}, DpAll K H vs ds → DpAll K H' vs ds
  | _, _, .nil => .nil
  | _, _, .cons h t => .cons (k.dp h) (k.dpAll t)
end
/-! ### tables of code objects -/
def Tb (T : List Addr) (H : Hp) : Prop := ∀ p ∈ T, GxR.TabG H p
/-- the tables may have grown, all else is as it was -/
def Grw (T : List Addr) (H H' : Hp) : Prop := Tb T H' ∧ ∀ b, b ∉ T → H' b = H b
theorem Grw.refl {T : List Addr} {H : Hp} (t : Tb T H) : Grw T H H := ⟨t, fun _ _ => rfl⟩
theorem Grw.trans {T : List Addr} {H H1 H2 : Hp} (a : Grw T H H1) (b : Grw T H1 H2) : Grw T H H2 := ⟨b.1, fun c h => (b.2 c h).trans (a.2 c h)⟩
theorem Grw.one {T : List Addr} {P : Addr} {H H' : Hp} (t : Tb T H) (hP : P ∈ T) (g : GxR.Tabbed P H H') : Grw T H H' := by
  refine ⟨fun p hp => ?_, fun b hb => g.2 b fun e => hb (e ▸ hP)⟩
  by_cases e : p = P
  · subst e; exact g.1
  · obtain ⟨ps, h1, h2⟩ := t p hp
    exact ⟨ps, (g.2 p e).trans h1, h2⟩
theorem Grw.kd {T : List Addr} {H H' : Hp} (t : Tb T H) (g : Grw T H H') : Kd H H' := fun b o e k => by
  have nb : b ∉ T := fun hb => by
    obtain ⟨ps, h1, _⟩ := t b hb
    rw [h1] at e
    cases e
    rcases k with ⟨xs, k⟩ | ⟨xs, k⟩ | ⟨ob, y, k⟩ <;> cases k
  rw [g.2 b nb]
  exact e
theorem Grw.none {T : List Addr} {H H' : Hp} (g : Grw T H H') {b : Addr} (h : H' b = none) : H b = none := by
  by_cases hb : b ∈ T
  · obtain ⟨ps, h1, _⟩ := g.1 b hb
    rw [h1] at h
    cases h
  · rw [← g.2 b hb]; exact h
theorem Tb.new {T : List Addr} {H : Hp} {p : Addr} {o : HO} (t : Tb T H) (n : H p = none) : Tb T (upd H p o) := fun q hq => by
  obtain ⟨ps, h1, h2⟩ := t q hq
  exact ⟨ps, by rw [upd_ne (ne_of_none h1 n)]; exact h1, h2⟩
theorem Tb.over {T : List Addr} {H : Hp} {p : Addr} {o u : HO} (t : Tb T H) (e : H p = some u) (hu : ∀ ps, u ≠ .tbl ps) : Tb T (upd H p o) := fun q hq => by
  obtain ⟨ps, h1, h2⟩ := t q hq
  have nq : q ≠ p := fun z => by
    rw [z, e] at h1
    exact hu ps (Option.some.inj h1)
  exact ⟨ps, by rw [upd_ne nq]; exact h1, h2⟩
/-! ### what kind a thing is -/
def tyN : PyData → String
  | .none => "NoneType"
  | .bool _ => "bool"
  | .int _ => "int"
  | .str _ => "str"
  | .list _ => "list"
  | .tuple _ => "tuple"
  | .dict _ => "dict"
theorem tyX {K : PySem.W.Frag} {H : Hp} {x : V} {d : PyData} (h : Dp K H x d) : TyX K H x (.type (tyN d)) := by
  cases h with
  | non => exact .base .non
  | bl b => exact .base (.bl b)
  | int i => exact .base (.int i)
  | str z => exact .base (.str z)
  | lst h1 _ =>
    rcases h1 with (h1 | ⟨o, h1⟩) | ⟨o, its, n, h1, h2, _⟩
    · exact .base (.lst h1)
    · exact .base (.frz h1)
    · exact .kList h1 h2
  | tup h1 _ =>
    rcases h1 with (h1 | ⟨o, h1⟩) | ⟨o, its, n, h1, h2, _⟩
    · exact .base (.tup h1)
    · exact .fTuple h1
    · exact .kTuple h1 h2
def isI : PyData → Bool | .int _ => true | .bool _ => true | _ => false
def isB : PyData → Bool | .bool _ => true | _ => false
def isS : PyData → Bool | .str _ => true | _ => false
def isT : PyData → Bool | .tuple _ => true | _ => false
theorem kitI : ∀ d : PyData, kitB (tyN d) "int" = some (isI d)
  | .none => (by decide +kernel : kitB "NoneType" "int" = some false)
  | .bool _ => (by decide +kernel : kitB "bool" "int" = some true)
  | .int _ => (by decide +kernel : kitB "int" "int" = some true)
  | .str _ => (by decide +kernel : kitB "str" "int" = some false)
  | .list _ => (by decide +kernel : kitB "list" "int" = some false)
  | .tuple _ => (by decide +kernel : kitB "tuple" "int" = some false)
  | .dict _ => (by decide +kernel : kitB "dict" "int" = some false)
theorem kitBo : ∀ d : PyData, kitB (tyN d) "bool" = some (isB d)
  | .none => (by decide +kernel : kitB "NoneType" "bool" = some false)
  | .bool _ => (by decide +kernel : kitB "bool" "bool" = some true)
  | .int _ => (by decide +kernel : kitB "int" "bool" = some false)
  | .str _ => (by decide +kernel : kitB "str" "bool" = some false)
  | .list _ => (by decide +kernel : kitB "list" "bool" = some false)
  | .tuple _ => (by decide +kernel : kitB "tuple" "bool" = some false)
  | .dict _ => (by decide +kernel : kitB "dict" "bool" = some false)
theorem kitS : ∀ d : PyData, kitB (tyN d) "str" = some (isS d)
  | .none => (by decide +kernel : kitB "NoneType" "str" = some false)
  | .bool _ => (by decide +kernel : kitB "bool" "str" = some false)
  | .int _ => (by decide +kernel : kitB "int" "str" = some false)
  | .str _ => (by decide +kernel : kitB "str" "str" = some true)
  | .list _ => (by decide +kernel : kitB "list" "str" = some false)
  | .tuple _ => (by decide +kernel : kitB "tuple" "str" = some false)
  | .dict _ => (by decide +kernel : kitB "dict" "str" = some false)
theorem kitT : ∀ d : PyData, kitB (tyN d) "tuple" = some (isT d)
  | .none => (by decide +kernel : kitB "NoneType" "tuple" = some false)
  | .bool _ => (by decide +kernel : kitB "bool" "tuple" = some false)
  | .int _ => (by decide +kernel : kitB "int" "tuple" = some false)
  | .str _ => (by decide +kernel : kitB "str" "tuple" = some false)
  | .list _ => (by decide +kernel : kitB "list" "tuple" = some false)
  | .tuple _ => (by decide +kernel : kitB "tuple" "tuple" = some true)
  | .dict _ => (by decide +kernel : kitB "dict" "tuple" = some false)
/-- isinstance(x, T) -/
theorem isi_ok {K : PySem.W.Frag} {H : Hp} {x : V} {d : PyData} {n : String} {b : Bool} {Q : VK} (h : Dp K H x d) (k : kitB (tyN d) n = some b) (q : Q (.bl b) H) : rIsi K [x, .ty n] H Q :=
  ⟨x, .ty n, _, _, b, rfl, .ty n, tyX h, kit_ty k, q⟩
end Mw

namespace Mw
open PySem PySem.Spec PyProof.Rows L2
/-! ### all over a text's signs -/
theorem wipe_set (σ : L2.St) (i : Nat) (v : Option V) : wipe ((wipe σ [i]).set i v) [i] = wipe σ [i] := by
  show ((σ.set i none).set i v).set i none = σ.set i none
  rw [List.set_set, List.set_set]
theorem take_all_succ {l : List Nat} {j c : Nat} {pb : Nat → Bool} (h : l[j]? = some c) (a : (l.take j).all pb = true) (b : pb c = true) : (l.take (j + 1)).all pb = true := by
  rw [List.take_add_one, h, List.all_append, a]
  simpa using b
theorem all_text {x : Str} {i : Nat} {te : TE} {σ : L2.St} {H : Hp} {Q : VK} (Pv : Hp → Prop) (pb : Nat → Bool) (h0 : Pv H)
    (step : ∀ c H (R : VK), c ∈ x.cps.toList → Pv H → (∀ H', Pv H' → R (.bl (pb c)) H') → te ((wipe σ [i]).set i (some (.str ⟨#[c]⟩))) H R) (hq : ∀ H, Pv H → Q (.bl (x.cps.toList.all pb)) H) :
    ∃ W : Nat → Nat → Unit → Hp → Prop, (∃ m, W 0 m () H) ∧ turns (Its x) (gName i) tYes te [i] (stpA true) (fun _ y H => y = .bl false ∧ Q (.bl false) H) (fun _ H => Q (.bl true) H) σ W := by
  have sz : x.cps.size = x.cps.toList.length := by simp
  refine ⟨fun j m _ H => j + m = x.cps.size ∧ Pv H ∧ (x.cps.toList.take j).all pb = true, ⟨x.cps.size, by omega, h0, by simp⟩, fun j m a H w => ?_⟩
  obtain ⟨e, pv, al⟩ := w
  by_cases hj : j < x.cps.size
  · refine .inr ⟨hj, fun _ H' => Pv H' ∧ (x.cps.toList.take (j + 1)).all pb = true, fun a' H' n => ⟨m - 1, by omega, by omega, n.1, n.2⟩, fun v H' y => ?_⟩
    obtain ⟨rfl, c, hc, rfl⟩ := y
    have hl : x.cps.toList[j]? = some c := by rw [Array.getElem?_toList]; exact hc
    refine ⟨wipe_set σ i _, ?_⟩
    simp only [tYes, if_true]
    have hm : c ∈ x.cps.toList := List.mem_of_getElem? hl
    refine step c H' _ hm pv fun H2 pv2 => ?_
    cases hb : pb c with
    | true => exact .inr ⟨(), if_pos rfl, pv2, take_all_succ hl al hb⟩
    | false =>
      refine .inl ⟨if_neg (by simp), rfl, ?_⟩
      have := hq H2 pv2
      have fa : x.cps.toList.all pb = false := by
        rw [List.all_eq_false]
        exact ⟨c, hm, by simp [hb]⟩
      rw [fa] at this
      exact this
  · refine .inl ⟨show x.cps.size ≤ j by omega, ?_⟩
    have := hq H pv
    rw [List.take_of_length_le (by omega)] at al
    rw [al] at this
    exact this
end Mw

namespace Mw
open PySem PySem.Spec PyProof.Rows L2
/-! ### the feed of a law: a dict with a list of cells and three numbers -/
abbrev kC : Key := Sum.inr "cells"
abbrev kA : Key := Sum.inr "at"
abbrev kL : Key := Sum.inr "left"
abbrev kN : Key := Sum.inr "count"
structure FeedK (kvs : List (Key × V)) (C : Addr) : Prop where
  cells : valV kvs kC = some (.ref C)
  at_ : ∃ n : Int, valV kvs kA = some (.int n) ∧ 0 ≤ n
  left : ∃ n : Int, valV kvs kL = some (.int n)
  count : ∃ n : Int, valV kvs kN = some (.int n)
  len : kvs.length ≤ 100
theorem putK_len {kvs : List (Key × V)} {k : Key} {v x : V} (h : valV kvs k = some x) : (putK kvs k v).length = kvs.length := by
  unfold putK
  rw [valV_any, h]
  simp
theorem kCA : ¬ kC = kA := by decide +kernel
theorem kCL : ¬ kC = kL := by decide +kernel
theorem kCN : ¬ kC = kN := by decide +kernel
theorem kAL : ¬ kA = kL := by decide +kernel
theorem kAN : ¬ kA = kN := by decide +kernel
theorem kLN : ¬ kL = kN := by decide +kernel
theorem FeedK.putN {kvs : List (Key × V)} {C : Addr} {n : Int} (f : FeedK kvs C) : FeedK (putK kvs kN (.int n)) C := by
  obtain ⟨c, hc⟩ := f.count
  refine ⟨by rw [valV_put, if_neg kCN]; exact f.cells, by rw [valV_put, if_neg kAN]; exact f.at_, by rw [valV_put, if_neg kLN]; exact f.left, ⟨n, by rw [valV_put, if_pos rfl]⟩, by rw [putK_len hc]; exact f.len⟩
theorem FeedK.putL {kvs : List (Key × V)} {C : Addr} {n : Int} (f : FeedK kvs C) : FeedK (putK kvs kL (.int n)) C := by
  obtain ⟨c, hc⟩ := f.left
  refine ⟨by rw [valV_put, if_neg kCL]; exact f.cells, by rw [valV_put, if_neg kAL]; exact f.at_, ⟨n, by rw [valV_put, if_pos rfl]⟩, by rw [valV_put, if_neg (fun e => kLN e.symm)]; exact f.count, by rw [putK_len hc]; exact f.len⟩
theorem FeedK.putA {kvs : List (Key × V)} {C : Addr} {n : Int} (f : FeedK kvs C) (hn : 0 ≤ n) : FeedK (putK kvs kA (.int n)) C := by
  obtain ⟨c, hc, _⟩ := f.at_
  refine ⟨by rw [valV_put, if_neg kCA]; exact f.cells, ⟨n, by rw [valV_put, if_pos rfl], hn⟩, by rw [valV_put, if_neg (fun e => kAL e.symm)]; exact f.left, by rw [valV_put, if_neg (fun e => kAN e.symm)]; exact f.count, by rw [putK_len hc]; exact f.len⟩
structure Fd (F C : Addr) (ns : List Int) (H : Hp) : Prop where
  ex : ∃ kvs, H F = some (.dK kvs) ∧ FeedK kvs C
  cl : H C = some (.lst (ns.map V.int))
/-- all but F is as it was (there may be more) -/
def Ev (F : Addr) (H H' : Hp) : Prop := ∀ b o, H b = some o → b ≠ F → H' b = some o
theorem Ev.refl (F : Addr) (H : Hp) : Ev F H H := fun _ _ e _ => e
theorem Ev.trans {F : Addr} {H H1 H2 : Hp} (a : Ev F H H1) (b : Ev F H1 H2) : Ev F H H2 := fun c o e n => b c o (a c o e n) n
theorem Ev.new {F p : Addr} {H : Hp} {o : HO} (n : H p = none) : Ev F H (upd H p o) := fun b u e _ => by rw [upd_ne (ne_of_none e n)]; exact e
theorem Ev.own {F : Addr} {H : Hp} {o : HO} : Ev F H (upd H F o) := fun b u e n => by rw [upd_ne n]; exact e
theorem Ev.put {F p q : Addr} {H H' : Hp} {o : HO} (a : Ev F H H') (n : H p = none) : Ev F H (upd H' p o) := fun b u e nb => by rw [upd_ne (ne_of_none e n)]; exact a b u e nb
theorem Ev.kd {F C : Addr} {ns : List Int} {H H' : Hp} (f : Fd F C ns H) (e : Ev F H H') : Kd H H' := fun b o h k => by
  refine e b o h fun z => ?_
  obtain ⟨kvs, hF, _⟩ := f.ex
  rw [z, hF] at h
  cases h
  rcases k with ⟨xs, k⟩ | ⟨xs, k⟩ | ⟨ob, y, k⟩ <;> cases k
theorem Ev.tb {F C : Addr} {ns : List Int} {T : List Addr} {H H' : Hp} (f : Fd F C ns H) (e : Ev F H H') (t : Tb T H) : Tb T H' := fun p hp => by
  obtain ⟨ps, h1, h2⟩ := t p hp
  refine ⟨ps, e p _ h1 fun z => ?_, h2⟩
  obtain ⟨kvs, hF, _⟩ := f.ex
  rw [z, hF] at h1
  cases h1
theorem Ev.free {F C : Addr} {ns : List Int} {H H' : Hp} (f' : Fd F C ns H') (e : Ev F H H') {p : Addr} (n : H' p = none) : H p = none := by
  cases h : H p with
  | none => rfl
  | some o =>
    obtain ⟨kvs, hF, _⟩ := f'.ex
    have np : p ≠ F := fun z => by
      rw [z, hF] at n
      cases n
    rw [e p o h np] at n
    cases n
theorem Fd.new {F C p : Addr} {ns : List Int} {H : Hp} {o : HO} (f : Fd F C ns H) (n : H p = none) : Fd F C ns (upd H p o) := by
  obtain ⟨kvs, hF, k⟩ := f.ex
  exact ⟨⟨kvs, by rw [upd_ne (ne_of_none hF n)]; exact hF, k⟩, by rw [upd_ne (ne_of_none f.cl n)]; exact f.cl⟩
theorem Fd.over {F C p : Addr} {ns : List Int} {H : Hp} {o u : HO} (f : Fd F C ns H) (e : H p = some u) (n1 : p ≠ F) (n2 : p ≠ C) : Fd F C ns (upd H p o) := by
  obtain ⟨kvs, hF, k⟩ := f.ex
  exact ⟨⟨kvs, by rw [upd_ne (Ne.symm n1)]; exact hF, k⟩, by rw [upd_ne (Ne.symm n2)]; exact f.cl⟩
theorem Fd.ne {F C : Addr} {ns : List Int} {H : Hp} (f : Fd F C ns H) : C ≠ F := by
  obtain ⟨kvs, hF, _⟩ := f.ex
  exact ne_of f.cl hF (by intro z; cases z)
theorem Fd.put {F C : Addr} {ns : List Int} {H : Hp} {kvs : List (Key × V)} (f : Fd F C ns H) (k : FeedK kvs C) : Fd F C ns (upd H F (.dK kvs)) :=
  ⟨⟨kvs, upd_same, k⟩, by rw [upd_ne f.ne]; exact f.cl⟩
theorem Fd.grw {F C : Addr} {ns : List Int} {T : List Addr} {H H' : Hp} (f : Fd F C ns H) (t : Tb T H) (g : Grw T H H') : Fd F C ns H' := by
  obtain ⟨kvs, hF, k⟩ := f.ex
  have n1 : F ∉ T := fun h => by
    obtain ⟨ps, h1, _⟩ := t F h
    rw [hF] at h1
    cases h1
  have n2 : C ∉ T := fun h => by
    obtain ⟨ps, h1, _⟩ := t C h
    rw [f.cl] at h1
    cases h1
  exact ⟨⟨kvs, by rw [g.2 F n1]; exact hF, k⟩, by rw [g.2 C n2]; exact f.cl⟩
theorem dpInts {K : PySem.W.Frag} {H : Hp} : ∀ ns : List Int, DpAll K H (ns.map V.int) (ns.map PyData.int)
  | [] => .nil
  | n :: r => .cons (.int n) (dpInts r)
theorem shInts : ∀ ns : List Int, PyData.canLayAll0 (ns.map PyData.int) = true
  | [] => by simp [PyData.canLayAll0]
  | n :: r => by simp [PyData.canLayAll0, PyData.canLay0, shInts r]
theorem dpthInts : ∀ ns : List Int, PyData.depthAll (ns.map PyData.int) ≤ 1
  | [] => by simp [PyData.depthAll]
  | n :: r => by
    have h := dpthInts r
    simp [PyData.depthAll, PyData.depth]
    omega
theorem shapedInts (ns : List Int) : SeqAt.shaped (.list (ns.map PyData.int)) = true := by
  show (PyData.canLay0 (.list (ns.map PyData.int)) && decide (PyData.depth (.list (ns.map PyData.int)) ≤ 64)) = true
  rw [Bool.and_eq_true]
  refine ⟨by simp only [PyData.canLay0]; exact shInts ns, decide_eq_true ?_⟩
  have h := dpthInts ns
  simp only [PyData.depth]
  omega
theorem eqvNil (ns : List Int) : PyData.eqv (.list (ns.map PyData.int)) (.list []) = decide (ns = []) := by
  cases ns with
  | nil => simp [PyData.eqv, PyData.eqvAll]
  | cons n r => simp [PyData.eqv, PyData.eqvAll]
/-- a draw -/
def spDraw : Sp := fun vs H Q _ => ∃ (F C : Addr) (ns : List Int) (m : Int), vs = [.ref F, .int m] ∧ 0 < m ∧ m < 1073741824 ∧ ns.length ≤ 63 ∧ Fd F C ns H ∧
  ∀ (r : Int) (H' : Hp), 0 ≤ r → r < m → Fd F C ns H' → Ev F H H' → Q (.int r) H'
def spFeed (K : PySem.W.Frag) : Sp := fun vs H Q _ => ∃ (a : Addr) (ns : List Int), vs = [.ref a] ∧ SqL K H a (ns.map V.int) ∧ ns.length ≤ 63 ∧
  ∀ (F C : Addr) (H' : Hp), H F = none → Fd F C ns H' → Same H H' → Q (.ref F) H'
end Mw

namespace Mw
open PySem PySem.Spec PyProof.Rows L2
/-! ### short texts of plain signs -/
def Asc (n : Nat) (z : Str) : Prop := z.length ≤ n ∧ ∀ c ∈ z.cps.toList, c < 128
theorem Asc.mono {n m : Nat} {z : Str} (a : Asc n z) (h : n ≤ m) : Asc m z := ⟨Nat.le_trans a.1 h, a.2⟩
theorem Asc.len {n : Nat} {z : Str} (a : Asc n z) : z.cps.toList.length ≤ n := by
  have h : z.cps.toList.length = z.length := by simp [Str.length]
  rw [h]; exact a.1
theorem Asc.line {n : Nat} {z : Str} (a : Asc n z) (h : n ≤ 1000000) : z.length ≤ sizeLine := Nat.le_trans a.1 (Nat.le_trans h (by decide))
theorem asc_mk {n : Nat} {l : List Nat} (h : l.length ≤ n) (c : ∀ x ∈ l, x < 128) : Asc n ⟨l.toArray⟩ := ⟨by simpa [Str.length] using h, by simpa using c⟩
theorem asc_one {c : Nat} (h : c < 128) : Asc 1 ⟨#[c]⟩ := ⟨Nat.le_refl _, fun x hx => by
  have : x = c := by simpa using hx
  omega⟩
theorem cl_append (x y : Str) : (x ++ y).cps.toList = x.cps.toList ++ y.cps.toList := TL.tl_append x y
theorem len_append (x y : Str) : (x ++ y).length = x.length + y.length := strLen_append x y
theorem Asc.app {n m : Nat} {x y : Str} (a : Asc n x) (b : Asc m y) : Asc (n + m) (x ++ y) := by
  refine ⟨by rw [len_append]; exact Nat.add_le_add a.1 b.1, fun c hc => ?_⟩
  rw [cl_append] at hc
  rcases List.mem_append.mp hc with h | h
  · exact a.2 c h
  · exact b.2 c h
theorem Asc.cut {n : Nat} {z : Str} (a : Asc n z) (lo hi : Option Int) : Asc n (cutS z lo hi) := by
  refine asc_mk ?_ fun x hx => ?_
  · rw [List.length_take, List.length_drop]
    have := a.len
    omega
  · exact a.2 x (List.mem_of_mem_drop (List.mem_of_mem_take hx))
theorem asc_join : ∀ {ys : List Str} {k : Nat}, (∀ y ∈ ys, Asc k y) → Asc (ys.length * k) (Str.join Str.empty ys)
  | [], k, _ => ⟨Nat.zero_le _, fun c hc => by
      have : c ∈ ([] : List Nat) := hc
      cases this⟩
  | [y], k, h => by
    show Asc (1 * k) y
    rw [Nat.one_mul]
    exact h y (by simp)
  | x :: z :: r, k, h => by
    show Asc ((z :: r).length.succ * k) (x ++ Str.empty ++ Str.join Str.empty (z :: r))
    have h1 := h x (by simp)
    have h2 := asc_join (ys := z :: r) (k := k) fun y hy => h y (List.mem_cons_of_mem _ hy)
    have h3 : Asc 0 Str.empty := ⟨Nat.le_refl _, fun c hc => by
      have : c ∈ ([] : List Nat) := hc
      cases this⟩
    exact ((h1.app h3).app h2).mono (by rw [Nat.succ_mul]; omega)
theorem asc_of {s : String} {n : Nat} (h : ((Str.ofString s).length ≤ n && (Str.ofString s).cps.toList.all fun c => decide (c < 128)) = true) : Asc n (Str.ofString s) := by
  rw [Bool.and_eq_true] at h
  exact ⟨of_decide_eq_true h.1, fun c hc => of_decide_eq_true (List.all_eq_true.mp h.2 c hc)⟩
/-- a sign of a text at an open place -/
theorem sign_at {n : Nat} {z : Str} (a : Asc n z) {r : Int} (h0 : 0 ≤ r) (h1 : r < (z.length : Int)) : ∃ c, atI z.cps.toList r = some c ∧ c < 128 := by
  obtain ⟨j, rfl⟩ : ∃ j : Nat, r = (j : Int) := ⟨r.toNat, (Int.toNat_of_nonneg h0).symm⟩
  have hl : z.cps.toList.length = z.length := by simp [Str.length]
  have hj : j < z.cps.toList.length := by omega
  exact ⟨z.cps.toList[j], atI_nat (List.getElem?_eq_getElem hj), a.2 _ (List.getElem_mem hj)⟩
/-- an item of a list at an open place -/
theorem val_at {xs : List V} {r : Int} (h0 : 0 ≤ r) (h1 : r < (xs.length : Int)) : ∃ v, atI xs r = some v ∧ v ∈ xs ∧ xs[r.toNat]? = some v := by
  obtain ⟨j, rfl⟩ : ∃ j : Nat, r = (j : Int) := ⟨r.toNat, (Int.toNat_of_nonneg h0).symm⟩
  have hj : j < xs.length := by omega
  exact ⟨xs[j], atI_nat (List.getElem?_eq_getElem hj), List.getElem_mem hj, by simp [List.getElem?_eq_getElem hj]⟩
end Mw

namespace Mw
open PySem PySem.Spec PyProof.Rows L2
/-! ### t[::-1], t a tuple -/
theorem places_rev (n : Nat) : Builtin.Slice.slicePlaces ((n : Int) - 1) (-1) (-1) = n := by
  unfold Builtin.Slice.slicePlaces
  rw [if_neg (by decide)]
  by_cases h : (n : Int) - 1 > -1
  · rw [if_pos h, show (-(-1 : Int)) = 1 by decide, Int.ediv_one]
    omega
  · rw [if_neg h]
    omega
theorem fm_congr {α β : Type} {f g : α → Option β} : ∀ {l : List α}, (∀ a ∈ l, f a = g a) → l.filterMap f = l.filterMap g
  | [], _ => rfl
  | a :: l, h => by
    rw [List.filterMap_cons, List.filterMap_cons, h a (by simp), fm_congr fun b hb => h b (List.mem_cons_of_mem _ hb)]
theorem pick_rev (xs : Array Value) : ((List.range xs.size).filterMap fun (k : Nat) => xs[((xs.size : Int) - 1 + (k : Int) * (-1)).toNat]?).toArray = xs.toList.reverse.toArray := by
  have e : (List.range xs.size).filterMap (fun (k : Nat) => xs[((xs.size : Int) - 1 + (k : Int) * (-1)).toNat]?) = ((List.range xs.size).map fun k => xs.size - 1 - k).filterMap (xs[·]?) := by
    rw [List.filterMap_map]
    refine fm_congr fun k hk => ?_
    have := List.mem_range.mp hk
    have q : ((xs.size : Int) - 1 + (k : Int) * (-1)).toNat = xs.size - 1 - k := by omega
    rw [q]
    rfl
  rw [e, PySem.W.krv_range, List.filterMap_reverse, PySem.W.krv_all]
section
variable {prog : Program} {w : World} {A : Around} {E : Value → Shared → Prop} {s : Shared}
theorem applied_rev {sl : Addr} {n : Nat} {tk : Tok} {Q : Int × Int × Nat → Shared → Prop} (hs : s.heap.IsSliceOf sl .none .none (.int (-1) tk)) (h : Q ((n : Int) - 1, -1, n) s) :
    wpAny (model prog w) A (Builtin.Slice.sliceApplied (.ref sl) (pure (n : Int))) Q E s := by
  obtain ⟨os, hos, hcs, hds⟩ := id hs
  unfold Builtin.Slice.sliceApplied Builtin.Slice.sliceFields
  refine wpAny_bind (wpAny_bind (wpAny_field hos hds (x := .none) rfl (wpAny_bind (wpAny_field hos hds (x := .none) rfl (wpAny_bind (wpAny_field hos hds (x := .int (-1) tk) rfl (wpAny_pure ?_)))))))
  refine wpAny_bind (slicePart_int ?_)
  show wpAny _ _ (if ((-1 : Int) == 0) = true then _ else _) _ _ s
  rw [if_neg (by decide)]
  refine wpAny_bind (slicePart_none (wpAny_bind (slicePart_none (wpAny_bind (wpAny_pure ?_)))))
  show wpAny _ _ (pure ((n : Int) - 1, (-1 : Int), Builtin.Slice.slicePlaces ((n : Int) - 1) (-1) (-1))) _ _ s
  rw [places_rev]
  exact wpAny_pure h
theorem getItem_rev {t sl : Addr} {items : Array Value} {tk : Tok} {Q : Value → Shared → Prop} (ht : IsTup s.heap t items) (hs : s.heap.IsSliceOf sl .none .none (.int (-1) tk))
    (h : Q (.ref s.heap.objs.size) { s with heap := s.heap.push { cls := .type "tuple", data := .seq items.toList.reverse.toArray } }) (hz : items.size ≤ sizeLine) :
    wpAny (model prog w) A (getItem (.ref t) (.ref sl)) Q E s := by
  have hok : sizeOk (.seq items.toList.reverse.toArray) := by
    show items.toList.reverse.toArray.size ≤ sizeLine
    rw [List.size_toArray, List.length_reverse, Array.length_toList]
    exact hz
  obtain ⟨os, hos, hcs, hds⟩ := id hs
  unfold getItem
  try with_reducible refine wpAny_holding ?_
  first | refine wpAny_bind (wpAny_pure ?_) | skip
  refine wpAny_bind (wpAny_sequenceKey ht.typeIs (by decide) ?_)
  refine wpAny_bind (wpAny_callSpecial?_slot (name := Str.ofString "__getitem__") ht.typeIs PyProof.Rows.slot_tuple_getitem (wpAny_call_entry PyProof.Rows.slot_tuple_getitem ht.typeIs entry_tuple_getitem ?_ (args_tuple_getitem _ _)))
  show wpAny _ _ (Builtin.Tuple.tupleItemsOf (.ref t) >>= _) _ _ s
  refine wpAny_bind (tupleItemsOf_ ht ?_)
  refine wpAny_bind (wpAny_typeOf (show s.TypeIs (.ref sl) "slice" from ⟨os, hos, hcs⟩) ?_)
  rw [if_pos (by decide)]
  refine wpAny_bind (applied_rev hs ?_)
  show wpAny _ _ (if (((items.size : Int) - 1) == 0 && (-1 : Int) == 1 && items.size == items.size) = true then _ else _) _ _ s
  rw [if_neg (by
    intro q
    rw [Bool.and_eq_true, Bool.and_eq_true] at q
    exact absurd q.1.2 (by decide)), pick_rev]
  first
    | exact wpAny_bind (m := Builtin.Tuple.tupleExact _) (wpAny_newObj_type (wpAny_pure ⟨_, rfl, wpAny_pure h⟩) hok)
    | exact wpAny_bind (m := Builtin.Tuple.tupleExact _) (wpAny_newObj_type (wpAny_bind (wpAny_pure (wpAny_pure ⟨_, rfl, wpAny_pure h⟩))) hok)
    | exact wpAny_bind (wpAny_bind (m := Builtin.Tuple.tupleExact _) (wpAny_newObj_type (wpAny_pure (wpAny_pure ⟨_, rfl, wpAny_pure h⟩)) hok))
    | exact wpAny_bind (wpAny_bind (m := Builtin.Tuple.tupleExact _) (wpAny_newObj_type (wpAny_pure ⟨_, rfl, wpAny_pure h⟩) hok))
end
section
variable {X : Cx}
def tRevT (K : PySem.W.Frag) (te : TE) : TE := fun σ H Q => te σ H fun x H1 => ∃ a xs, x = .ref a ∧ SqT K H1 a xs ∧ ∀ p, H1 p = none → Q (.ref p) (upd H1 p (.tup xs.reverse))
theorem pe_revT {e : Expr} {te : TE} {k : Nat} {p1 p2 p3 pos : Pos} (he : PE X e te) : PE X (.Subscript e (.Slice none none (some (.UnaryOp .USub (.Constant (.int 1) k p1) p2)) p3) pos) (tRevT X.K te) := by
  refine ⟨fun pins s σ H Q I h => ?_⟩
  refine Subscript_ (thn (he.run pins s σ H _ I h) fun v s1 h1 => ?_)
  obtain ⟨x, H1, I1, r1, a, xs, rfl, hx, q⟩ := h1
  cases r1
  have st : PO X (some (.UnaryOp .USub (.Constant (.int 1) k p1) p2)) (tPart (tUn (rU fun i => .int (-i)) (tC (.int 1)))) := po_some (pe_un un_neg pe_int)
  refine wpAny_Slice (thn (po_none.run pins s1 σ H1 (fun o H2 => o = none ∧ H2 = H1) I1 ⟨rfl, rfl⟩) fun vl s2 h2 => ?_)
  obtain ⟨l, H2, I2, pl, rfl, rfl⟩ := h2
  refine thn (po_none.run pins s2 σ H2 (fun o H3 => o = none ∧ H3 = H2) I2 ⟨rfl, rfl⟩) fun vu s3 h3 => ?_
  obtain ⟨u, H3, I3, pu, rfl, rfl⟩ := h3
  refine thn (st.run pins s3 σ H3 (fun o H4 => o = some (-1) ∧ H4 = H3) I3 ⟨1, rfl, -1, rfl, rfl, rfl⟩) fun vs s4 h4 => ?_
  obtain ⟨o, H4, I4, ps, rfl, rfl⟩ := h4
  cases pl
  cases pu
  cases ps
  rename_i tk
  have I5 : Inv X pins σ H4 { s4 with heap := s4.heap.push { cls := .type "slice", data := .fields #[.none, .none, .int (-1) tk] } } := I4.kept (t' := s4.toks) fun b ob z => Heap.get?_push_of_some _ z
  obtain ⟨its, r, ht, hz⟩ := I5.tuple hx
  have hlen := r.length
  show wpAny (model X.prog X.w) X.A (subscriptTail e (.Slice none none (some (.UnaryOp .USub (.Constant (.int 1) k p1) p2)) p3) (.ref a) (.ref s4.heap.objs.size)) (EP X pins σ Q) X.xe { s4 with heap := s4.heap.push { cls := .type "slice", data := .fields #[.none, .none, .int (-1) tk] } }
  refine tail_any (ops := [.ref a, .ref s4.heap.objs.size]) ht.typeIs PyProof.Rows.slot_tuple_getitem.lookup ?_ (by with_unfolding_all rfl)
  refine getItem_rev ht (Heap.IsSliceOf.new _ _ _ _) ?_ (by rw [List.size_toArray]; omega)
  refine ⟨.ref _, _, I5.laid (t' := s4.toks) (o := .tup xs.reverse) (fun b ob z => Heap.get?_push_of_some _ z) (Nat.le_refl _) ?_, rfl, q _ (I5.hok.fresh (Nat.le_refl _))⟩
  exact ⟨by rw [List.length_reverse]; exact hz, _, r.reverse, IsTup.new _ _⟩
end
/-! ### data that can be shown -/
mutual
def wt : PyData → Nat
  | .none => 5
  | .bool _ => 5
  | .int _ => 1921
  | .str x => 10 * x.length + 2
  | .list xs => wtAll xs + 3
  | .tuple xs => wtAll xs + 3
  | .dict _ => 0
def wtAll : List PyData → Nat
  | [] => 0
  | x :: xs => wt x + 2 + wtAll xs
end
mutual
def fine : PyData → Bool
  | .none => true
  | .bool _ => true
  | .int i => decide (i.natAbs.log2 < 1920)
  | .str x => x.cps.toList.all fun c => decide (c < 128)
  | .list xs => fineAll xs
  | .tuple xs => fineAll xs
  | .dict _ => false
def fineAll : List PyData → Bool
  | [] => true
  | x :: xs => fine x && fineAll xs
end
theorem strOk_of {x : Str} (h : (x.cps.toList.all fun c => decide (c < 128)) = true) : PyData.strOk x = true := by
  unfold PyData.strOk
  rw [Array.all_toList.symm, List.all_eq_true]
  intro c hc
  have := of_decide_eq_true (List.all_eq_true.mp h c hc)
  exact decide_eq_true (by omega)
mutual
theorem fine_show : ∀ {d : PyData}, fine d = true → d.showable = true ∧ d.canLay0 = true ∧ d.shown.length ≤ wt d
  | .none, _ => ⟨rfl, rfl, by simp only [PyData.shown, wt]; decide +kernel⟩
  | .bool true, _ => ⟨rfl, rfl, by simp only [PyData.shown, wt]; decide +kernel⟩
  | .bool false, _ => ⟨rfl, rfl, by simp only [PyData.shown, wt]; decide +kernel⟩
  | .int i, h => by
    have h' : i.natAbs.log2 < 1920 := by simpa [fine] using h
    exact ⟨by simpa [PyData.showable] using h', rfl, by simp only [PyData.shown, wt]; exact int_text_len_1921 h'⟩
  | .str x, h => by
    have h' : (x.cps.toList.all fun c => decide (c < 128)) = true := by simpa [fine] using h
    refine ⟨rfl, by simp only [PyData.canLay0]; exact strOk_of h', ?_⟩
    simp only [PyData.shown, wt]
    refine StrLaws.reprText_len x fun c hc => ?_
    have := of_decide_eq_true (List.all_eq_true.mp h' c hc)
    omega
  | .list xs, h => by
    have h' : fineAll xs = true := by simpa [fine] using h
    obtain ⟨a, b, c, e⟩ := fine_showAll h'
    refine ⟨by simp only [PyData.showable]; exact a, by simp only [PyData.canLay0]; exact b, ?_⟩
    simp only [PyData.shown, wt]
    have := listText_len_le (PyData.shownAll xs)
    omega
  | .tuple xs, h => by
    have h' : fineAll xs = true := by simpa [fine] using h
    obtain ⟨a, b, c, e⟩ := fine_showAll h'
    refine ⟨by simp only [PyData.showable]; exact a, by simp only [PyData.canLay0]; exact b, ?_⟩
    simp only [PyData.shown, wt]
    have := tupleText_len_le (PyData.shownAll xs)
    omega
  | .dict _, h => by simp [fine] at h
theorem fine_showAll : ∀ {xs : List PyData}, fineAll xs = true → PyData.showableAll xs = true ∧ PyData.canLayAll0 xs = true ∧ ((PyData.shownAll xs).map (·.length)).sum + 2 * (PyData.shownAll xs).length ≤ wtAll xs ∧ (PyData.shownAll xs).length = xs.length
  | [], _ => ⟨rfl, rfl, by simp [PyData.shownAll, wtAll], rfl⟩
  | x :: xs, h => by
    have h' : fine x = true ∧ fineAll xs = true := by simpa [fineAll] using h
    obtain ⟨a, b, c⟩ := fine_show h'.1
    obtain ⟨a2, b2, c2, e2⟩ := fine_showAll h'.2
    refine ⟨by simp only [PyData.showableAll, a, a2, Bool.and_self], by simp only [PyData.canLayAll0, b, b2, Bool.and_self], ?_, by simp only [PyData.shownAll, List.length_cons, e2]⟩
    simp only [PyData.shownAll, wtAll, List.map_cons, List.sum_cons, List.length_cons]
    omega
end
/-- a thing that can be shown -/
structure Good (d : PyData) : Prop where
  fine : fine d = true
  wt : wt d ≤ 100000
  dp : d.depth ≤ 24
theorem Good.repr {K : PySem.W.Frag} {H : Hp} {x : V} {d : PyData} {Q : VK} (g : Good d) (h : Dp K H x d) (q : Q (.str d.shown) H) : rRepr K [x] H Q := by
  obtain ⟨a, b, c⟩ := fine_show g.fine
  exact ⟨x, d, rfl, h, a, b, Nat.le_trans g.dp (by decide), Nat.le_trans c (Nat.le_trans g.wt (by decide)), q⟩
end Mw

namespace Mw
open PySem PySem.Spec PyProof.Rows L2
/-! ### names -/
abbrev Nm := Int × Str
def nmK (n : Nm) : List Key := [.inl n.1, .inr n.2]
def nmV (n : Nm) : List V := [.int n.1, .str n.2]
def nmD (n : Nm) : PyData := .tuple [.int n.1, .str n.2]
theorem nmKV (n : Nm) : (nmK n).map kV = nmV n := rfl
theorem nmK_inj {n m : Nm} (h : nmK n = nmK m) : n = m := by
  have h1 : Sum.inl n.1 = (Sum.inl m.1 : Key) ∧ [(Sum.inr n.2 : Key)] = [Sum.inr m.2] := List.cons.inj h
  have h2 := List.cons.inj h1.2
  exact Prod.ext (Sum.inl.inj h1.1) (Sum.inr.inj h2.1)
/-- an address of a name -/
def NmA (H : Hp) (n : Nm) (b : Addr) : Prop := H b = some (.tup (nmV n))
theorem NmA.dp {K : PySem.W.Frag} {H : Hp} {n : Nm} {b : Addr} (h : NmA H n b) : Dp K H (.ref b) (nmD n) := .tup (.inl (.inl h)) (.cons (.int _) (.cons (.str _) .nil))
theorem alike_nm (a b : Nm) : PySem.W.alike (nmD a) (nmD b) = true := by simp [nmD, PySem.W.alike, PySem.W.alikeAll]
def srt (ns : List Nm) : List Nm := ns.mergeSort (PySem.W.dataLe false nmD)
theorem srt_perm (ns : List Nm) : (srt ns).Perm ns := List.mergeSort_perm ..
theorem srt_len (ns : List Nm) : (srt ns).length = ns.length := (srt_perm ns).length_eq
theorem mem_srt {ns : List Nm} {n : Nm} : n ∈ srt ns ↔ n ∈ ns := (srt_perm ns).mem_iff
abbrev Nms (H : Hp) (ns : List Nm) (bs : List Addr) : Prop := Paired (NmA H) ns bs
section
variable {X : Cx}
/-! ### sorted(d), d a dict of names -/
def rSortT : List V → Hp → VK → Prop := fun xs H Q => ∃ (d : Addr) (kvs : List (List Key × V)) (ns : List Nm), xs = [.ref d] ∧ H d = some (.dT kvs) ∧ kvs.map (·.1) = ns.map nmK ∧
  ∀ p bs, H p = none → Nms H (srt ns) bs → Q (.ref p) (upd H p (.lst (bs.map V.ref)))
theorem each_paired {H : Hp} : ∀ {out : List Value} {ns : List Nm}, PySem.W.EachIs (fun v n => ∃ b, v = Value.ref b ∧ NmA H n b) out ns → ∃ bs : List Addr, out = bs.map Value.ref ∧ Nms H ns bs
  | _, _, .nil => ⟨[], rfl, .nil⟩
  | _, _, .cons ⟨b, e, h⟩ t => by
    obtain ⟨bs, e2, h2⟩ := each_paired t
    exact ⟨b :: bs, by rw [e, e2]; rfl, .cons h h2⟩
theorem each_keys {H : Hp} : ∀ {kvs : List (List Key × V)} {ks : List (List Key × Addr × Value)} {ns : List Nm}, KT H kvs ks → kvs.map (·.1) = ns.map nmK → PySem.W.EachIs (fun v n => ∃ b, v = Value.ref b ∧ NmA H n b) (ks.map fun x => Value.ref x.2.1) ns
  | _, _, [], .nil, _ => .nil
  | _, _, n :: ns, .cons h t, e => by
    have e1 := List.cons.inj e
    refine .cons ⟨_, rfl, ?_⟩ (each_keys t e1.2)
    have h2 := h.2.1
    show H _ = some (.tup (nmV n))
    rw [← nmKV, ← e1.1]
    exact h2
  | _, _, n :: ns, .nil, e => by cases e
  | _, _, [], .cons h t, e => by cases e
/-- the keys of a dict, gathered; the heap has grown -/
theorem keys_of {prog : Program} {w : World} {A : Around} {E : Value → Shared → Prop} {s : Shared} {d : Addr} {o : Obj} {es : Array DictEntry} {ep : Nat} {R : List Value → Shared → Prop} (lo : (d == sysModules) = false) (hx : o.ExactDict) (hdt : o.data = .dict es ep)
    (hh : A.handled = none) (ho : s.heap.get? d = some o) (hn : es.size ≤ sizeLine)
    (q : ∀ (h' : Heap) (tk : Nat) (acc : Array Value), (∀ b o, s.heap.get? b = some o → h'.get? b = some o) → s.heap.objs.size ≤ h'.objs.size → ItemsOf (fun i v => ∃ en : DictEntry, es[i]? = some en ∧ v = en.key) acc es.size → R acc.toList { s with heap := h', toks := tk }) :
    wpAny (model prog w) A (collect (.ref d)) R E s := by
  have hd : d < s.heap.objs.size := Heap.lt_size ho
  let S := s.heap.objs.size
  let Fin (r : Result) (s' : Shared) : Prop := r = .ok (.ret (.ref S)) ∧ ∃ acc c, s'.heap.get? S = some (lstObj acc c) ∧ R acc.toList s'
  have main : codeAny (model prog w) A (.builtin "list.__iadd__" ⟨[.ref S, .ref d], []⟩) Fin { s with heap := s.heap.push { cls := .type "list", data := .seq #[] } } := by
    refine codeAny_builtin F.entry_list_iadd ?_
    rw [Around.under_plainId F.plain_list_iadd _]
    refine PySem.W.kdl_extend (kdl_raw lo hx hdt) hh (Heap.get?_push_of_some _ ho) S (Nat.ne_of_gt hd) (Nat.ne_of_gt hd) (.ref S) 0 (Heap.get?_push_size _ rfl) (fun h' tk acc c kp hS it => ⟨rfl, acc, c, hS, ?_⟩) hn
    refine q h' tk acc (fun b ob e => kp b ob (Nat.ne_of_lt (Heap.lt_size e)) (Heap.get?_push_of_some _ e)) ?_ it
    exact Nat.le_of_lt (Heap.lt_size hS)
  unfold collect
  refine wpAny_bind (wpAny_runValue (codeAny_builtin F.entry_proto_collect ?_))
  rw [Around.under_plainId F.plain_proto_collect _]
  refine wpAny_bind (wpAny_newObj_type (wpAny_pure ⟨plainId_quiet F.plain_list_iadd _, codeAny_mono main fun r s' x => ?_⟩))
  obtain ⟨rfl, acc, c, hS, hr⟩ := x
  exact wpAny_bind (wpAny_load hS (wpAny_pure hr))
theorem call_sortT (hc : X.calm = true) (hu : X.A.units + 16 < cLine) : CallR X (.builtin "sorted") rSortT := by
  intro pins s σ H xs us Q I r h
  obtain ⟨d, kvs, ns, rfl, hd, hk, q⟩ := h
  obtain ⟨u, rfl, rx⟩ := r.one
  cases rx
  obtain ⟨z, hs, ks, pr, o, es, ep, ho, hx, hdt, he, hn⟩ := (show ObjOk X.prog X.w H s.heap d (.dT kvs) from I.hok d _ hd)
  have l1 : es.size = ks.length := size_of_entries he
  have l2 : kvs.length = ks.length := Paired.length pr
  refine PySem.Calls.call_function_entry kind_sorted plain_sorted entry_sorted (args_sorted1 _) ?_
  unfold Builtin.«sorted»
  refine wpAny_bind (m := checkCount "sorted" 1 1 _) (wpAny_pure ?_)
  refine wpAny_bind (keys_of (A := X.A.in1) hs hx hdt (I.ok.hd hc) ho (by omega) fun h' tk acc' kp hsz it => ?_)
  have ea : acc'.toList = ks.map fun x => Value.ref x.2.1 := by
    have hl : acc'.toList.length = ks.length := by rw [Array.length_toList, it.1]; exact l1
    apply List.ext_getElem?
    intro j
    rw [List.getElem?_map]
    cases hj : acc'.toList[j]? with
    | none =>
      have h1 := List.getElem?_eq_none_iff.mp hj
      rw [List.getElem?_eq_none (by omega)]
      all_goals rfl
    | some v =>
      obtain ⟨en, hen, hv⟩ := it.2 j v (by rw [← Array.getElem?_toList]; exact hj)
      have qe := entry_at he j
      rw [hen] at qe
      cases hb : ks[j]? with
      | none =>
        rw [hb] at qe
        exact nomatch (show some en = none from qe)
      | some b =>
        rw [hb] at qe
        have e2 : en = entryOfKey (tupleKind (mixKind X.prog X.w)) b := Option.some.inj qe
        rw [hv, e2]
        all_goals rfl
  have hlen : acc'.toList.length ≤ sizeLine := by rw [ea, List.length_map]; omega
  have E0 : PySem.W.EachIs (fun v n => ∃ b, v = Value.ref b ∧ NmA H n b) acc'.toList ns := by rw [ea]; exact each_keys pr hk
  have I1 : Inv X pins σ H { s with heap := h'.push { cls := .type "list", data := .seq acc'.toList.toArray }, toks := tk } := I.kept fun b ob e => Heap.get?_push_of_some _ (kp b ob e)
  refine wpAny_bind (wpAny_newList ?_ hlen)
  have hob : (h'.push { cls := .type "list", data := .seq acc'.toList.toArray }).get? h'.objs.size = some (seqObj "list" acc'.toList.toArray 0) := Heap.get?_push_size _ rfl
  have ld : ∀ b : Nm, (nmD b).depth = 1 := fun b => by simp [nmD, PyData.depth, PyData.depthAll]
  refine wpAny_bind (wpAny_holding (wpAny_mono (PySem.W.list_sort_data (A := X.A.in1) (s := { s with heap := h'.push { cls := .type "list", data := .seq acc'.toList.toArray }, toks := tk }) (enc := nmD) (vs := acc'.toList) (bs := ns)
    (R := fun v n => ∃ b, v = Value.ref b ∧ NmA H n b) (Q := fun _ s' => EP X pins σ Q (.ref h'.objs.size) s') (E := fun _ _ => False) hob E0 ?_ (PySem.W.AllAlike.of alike_nm) (PySem.W.Sortable.tuples fun b => ⟨_, _, rfl⟩) (by rw [← E0.length]; exact hlen) (fun b _ => by rw [ld b]; show X.A.units + 1 + 1 + 1 < cLine; omega) ?_)
    (fun _ s' x => wpAny_pure ⟨_, rfl, x⟩) (fun _ _ e => e.elim)))
  · -- the names read off tuples
    refine E0.mono fun v n hv => ?_
    obtain ⟨b, rfl, hb⟩ := hv
    obtain ⟨_, its, rv, ot, hot, hct, nt, hdt2⟩ := (show ObjOk X.prog X.w H _ b (.tup (nmV n)) from I1.hok b _ hb)
    cases rv with
    | cons r1 r2 =>
      cases r2 with
      | cons r3 r4 =>
        cases r4
        obtain ⟨t1, rfl⟩ := r1
        obtain ⟨t2, rfl⟩ := r3
        refine ⟨[] ++ ([] ++ []), .tuple hot hct hdt2 (.cons (.int _ _) (.cons (.str _ _) .nil)), by simp⟩
  · intro out lo eo
    obtain ⟨bs, e1, e2⟩ := each_paired eo
    obtain ⟨ep', hat⟩ := sortedHeap_at (out := out.toArray) hob
    refine ⟨.ref h'.objs.size, _, I.laid (t' := tk) (a := h'.objs.size) (o := .lst (bs.map V.ref)) (fun b ob e => ?_) ?_ ?_, rfl, q _ bs (I.hok.fresh ?_) e2⟩
    · have hlt := Heap.lt_size (kp b ob e)
      rw [sortedHeap_old (Nat.ne_of_lt hlt) (by rw [size_push']; exact Nat.lt_succ_of_lt hlt)]
      exact Heap.get?_push_of_some _ (kp b ob e)
    · exact hsz
    · refine ⟨?_, bs.map Value.ref, ep', vals_refs bs, by rw [← e1]; exact hat⟩
      have e3 : out.length = bs.length := by rw [e1, List.length_map]
      rw [List.length_map, ← e3, lo, ← E0.length]
      exact hlen
    · exact hsz
end
end Mw

namespace Mw
open PySem PySem.Spec PyProof.Rows L2
section
variable {X : Cx}
/-! ### <=, < of names -/
def rLeN (K : PySem.W.Frag) : R2 := fun x y H Q => ∃ n m : Nm, Dp K H x (nmD n) ∧ Dp K H y (nmD m) ∧ Q (.bl (!PySem.W.dataLt (nmD m) (nmD n))) H
theorem op_leN (hu : X.A.units + 64 < cLine) : OpR X (compareOp .LtE) (rLeN X.K) := by
  intro pins s σ H x y v u Q I rx ry h
  obtain ⟨n, m, hn, hm, q⟩ := h
  obtain ⟨as, ra⟩ := Dp.reads I _ x v hn rx
  obtain ⟨bs, rb⟩ := Dp.reads I _ y u hm ry
  refine PySem.W.le_data ra rb (alike_nm n m) (fun z => by cases z) ?_ ⟨.bl _, H, I, rfl, q⟩
  have : (nmD n).depth = 1 := by simp [nmD, PyData.depth, PyData.depthAll]
  omega
/-! ### max(ns, default=d), of ints -/
def maxZ (d : Int) : List Int → Int
  | [] => d
  | n :: r => r.foldl max n
def rMaxDef (K : PySem.W.Frag) : List V → List V → Hp → VK → Prop := fun vs zs H Q => ∃ (a : Addr) (ns : List Int) (d : Int), vs = [.ref a] ∧ zs = [.int d] ∧ SqL K H a (ns.map V.int) ∧ Q (.int (maxZ d ns)) H
theorem alikeInts (ns : List Int) : PySem.W.AlikeAll (ns.map PyData.int) := by
  refine ⟨fun d hd d' hd' => ?_, fun d hd => ?_⟩
  · obtain ⟨i, _, rfl⟩ := List.mem_map.mp hd
    obtain ⟨j, _, rfl⟩ := List.mem_map.mp hd'
    simp [PySem.W.alike]
  · obtain ⟨i, _, rfl⟩ := List.mem_map.mp hd
    intro z
    cases z
theorem call_maxDef (hc : X.calm = true) (hu : X.A.units + 64 < cLine) : CallRK X (.builtin "max") [Str.ofString "default"] (rMaxDef X.K) := by
  intro pins s σ H vs zs us ws Q I r rz h
  obtain ⟨a, ns, d, rfl, rfl, hs, q⟩ := h
  obtain rfl := Vals.ref1 r
  obtain ⟨w1, rfl, t1, rfl⟩ := vals1 rz
  obtain ⟨its, rv, hl, _⟩ := I.list hs
  obtain ⟨as, rs⟩ := Dp.readsAll I (ns.map PyData.int) (ns.map V.int) its (dpInts ns) rv
  have hd0 : PyData.depthAll (ns.map PyData.int) = 0 := PySem.W.depth_ints ns
  refine PySem.W.max_list_default (vs := its.toArray) (I.ok.hd hc) hl.isList (by simpa using rs) (alikeInts ns) (by rw [hd0]; omega) (fun e h' tk kp => ?_) fun y ys i v h' tk bs e hi hr kp => ?_
  · have : ns = [] := List.map_eq_nil_iff.mp e
    subst this
    exact ⟨.int d, H, I.kept kp, ⟨_, rfl⟩, q⟩
  · cases ns with
    | nil => cases e
    | cons n r =>
      have e1 := List.cons.inj e
      rw [← e1.1, ← e1.2, PySem.W.maxD_ints] at hr
      cases hr with
      | int _ t => exact ⟨.int _, H, I.kept kp, ⟨t, rfl⟩, q⟩
/-! ### text * number -/
def repS (z : Str) (n : Nat) : Str := ⟨(List.replicate n z.cps.toList).flatten.toArray⟩
theorem fold_flat : ∀ (l : List (Array Nat)) (a : Array Nat), (l.foldl (· ++ ·) a).toList = a.toList ++ (l.map (·.toList)).flatten
  | [], a => by simp
  | x :: l, a => by rw [List.foldl_cons, fold_flat l]; simp
def rMulS : R2 := fun x y H Q => ∃ (z : Str) (n : Int), x = .str z ∧ y = .int n ∧ 0 ≤ n ∧ n ≤ 1000 ∧ z.length ≤ 1000 ∧ Q (.str (repS z n.toNat)) H
theorem op_mulS : OpR X (binaryOp .Mult) rMulS := by
  intro pins s σ H x y v u Q I rx ry h
  obtain ⟨z, n, rfl, rfl, n0, n1, hz, q⟩ := h
  obtain ⟨t, rfl⟩ := rx
  obtain ⟨t', rfl⟩ := ry
  have hr : (decide (n < -(2 ^ 63 : Int)) || decide (n ≥ 2 ^ 63)) = false := by
    rw [decide_eq_false (by omega), decide_eq_false (by omega)]; rfl
  have hm : z.length * n.toNat ≤ 1000000 := by
    have : n.toNat ≤ 1000 := by omega
    exact Nat.le_trans (Nat.mul_le_mul hz this) (by decide)
  refine PySem.P.mul_str hr (fun h1 _ => ?_) (fun _ _ => ?_) ?_
  · have h2 : (9223372036854775 : Int) ≤ (2 ^ 63 - 1) / n := by
      refine Int.le_ediv_of_mul_le (by omega) ?_
      have : (9223372036854775 : Int) * n ≤ 9223372036854775 * 1000 := Int.mul_le_mul_of_nonneg_left n1 (by decide)
      omega
    omega
  · unfold Builtin.Str.tooLong
    first
      | (rw [decide_eq_false]; omega)
      | (simp; omega)
      | (have := sizeLine_eq; simp only [decide_eq_false_iff_not]; omega)
  · by_cases h1 : n < 1
    · rw [if_pos h1]
      have e : repS z n.toNat = Str.empty := by
        have : n.toNat = 0 := by omega
        rw [this]; rfl
      rw [e] at q
      exact ⟨by decide, ⟨.str _, H, I.tok _, ⟨_, rfl⟩, q⟩⟩
    · rw [if_neg h1]
      cases h2 : (n == 1 || z.length == 0) with
      | true =>
        have e : repS z n.toNat = z := by
          rw [Bool.or_eq_true] at h2
          rcases h2 with h2 | h2
          · have : n = 1 := by simpa using h2
            subst this
            show (⟨(List.replicate 1 z.cps.toList).flatten.toArray⟩ : Str) = z
            simp
          · have hz0 : z.length = 0 := by simpa using h2
            have hz1 : z.cps = #[] := Array.eq_empty_of_size_eq_zero hz0
            have hz2 : z = ⟨#[]⟩ := by cases z; simp at hz1; subst hz1; rfl
            subst hz2
            simp [repS]
        rw [e] at q
        exact ⟨.str _, H, I, ⟨_, rfl⟩, q⟩
      | false =>
        have e : repS z n.toNat = ⟨(List.replicate n.toNat z.cps).foldl (· ++ ·) #[]⟩ := by
          unfold repS
          have := fold_flat (List.replicate n.toNat z.cps) #[]
          rw [List.map_replicate] at this
          simp only [List.nil_append] at this
          rw [← this, Array.toArray_toList]
        rw [e] at q
        refine ⟨?_, ⟨.str _, H, I.tok _, ⟨_, rfl⟩, q⟩⟩
        rw [← e]
        show (repS z n.toNat).length ≤ sizeLine
        have : (repS z n.toNat).length = z.length * n.toNat := by
          simp [repS, Str.length, Nat.mul_comm]
        rw [this, sizeLine_eq]
        omega
/-! ### l[::s], s 1 or -1 -/
def tStp (K : PySem.W.Frag) (te ts : TE) : TE := fun σ H Q => te σ H fun x H1 => tPart ts σ H1 fun o H2 => ∃ (a : Addr) (xs : List V) (st : Int), o = some st ∧ x = .ref a ∧ (st = 1 ∨ st = -1) ∧ SqL K H2 a xs ∧
  ∀ p, H2 p = none → Q (.ref p) (upd H2 p (.lst (if st = 1 then xs else xs.reverse)))
theorem pick_one (its : List Value) : slicePick its.toArray none none (some 1) = its.toArray := by
  have h : slicePick its.toArray none none (some 1) = slicePick its.toArray none none none := rfl
  rw [h, slicePick_cut, HT.sIx_none, HT.sIx_none]
  simp
theorem pe_stp {e st : Expr} {te ts : TE} {p3 pos : Pos} (he : PE X e te) (hs : PE X st ts) :
    PE X (.Subscript e (.Slice none none (some st) p3) pos) (tStp X.K te ts) := by
  refine ⟨fun pins s σ H Q I h => ?_⟩
  refine Subscript_ (thn (he.run pins s σ H _ I h) fun v s1 h1 => ?_)
  obtain ⟨x, H1, I1, r1, h1⟩ := h1
  refine wpAny_Slice (thn (po_none.run pins s1 σ H1 (fun o H2 => o = none ∧ H2 = H1) I1 ⟨rfl, rfl⟩) fun vl s2 h2 => ?_)
  obtain ⟨l, H2, I2, pl, rfl, rfl⟩ := h2
  refine thn (po_none.run pins s2 σ H2 (fun o H3 => o = none ∧ H3 = H2) I2 ⟨rfl, rfl⟩) fun vu s3 h3 => ?_
  obtain ⟨u, H3, I3, pu, rfl, rfl⟩ := h3
  refine thn ((po_some hs).run pins s3 σ H3 _ I3 h1) fun vs s4 h4 => ?_
  obtain ⟨o, H4, I4, ps, a, xs, stp, rfl, rfl, hst, hx, q⟩ := h4
  cases r1
  cases pl
  cases pu
  cases ps
  rename_i tk
  have I5 : Inv X pins σ H4 { s4 with heap := s4.heap.push { cls := .type "slice", data := .fields #[.none, .none, .int stp tk] } } := I4.kept (t' := s4.toks) fun b ob z => Heap.get?_push_of_some _ z
  obtain ⟨its, r, ht, hz⟩ := I5.list hx
  have hlen := r.length
  show wpAny (model X.prog X.w) X.A (subscriptTail e (.Slice none none (some st) p3) (.ref a) (.ref s4.heap.objs.size)) (EP X pins σ Q) X.xe { s4 with heap := s4.heap.push { cls := .type "slice", data := .fields #[.none, .none, .int stp tk] } }
  refine tail_any (ops := [.ref a, .ref s4.heap.objs.size]) ht.isList.typeIs slot_list_getitem.lookup ?_ (by with_unfolding_all rfl)
  refine wpAny_getItem_list_slice ht.isList (Heap.IsSliceOf.new _ _ _ _) .none .none (.int _ _) (by rcases hst with e | e <;> rw [e] <;> decide) ?_ (by rw [List.size_toArray]; omega)
  refine ⟨.ref _, _, I5.laid (t' := s4.toks) (o := .lst (if stp = 1 then xs else xs.reverse)) (fun b ob z => Heap.get?_push_of_some _ z) (Nat.le_refl _) ?_, rfl, q _ (I5.hok.fresh (Nat.le_refl _))⟩
  rcases hst with e | e
  · subst e
    rw [pick_one]
    exact ⟨hz, its, 0, r, Heap.get?_push_size _ rfl⟩
  · subst e
    rw [PySem.W.krv_pick]
    exact ⟨by show xs.reverse.length ≤ _; rw [List.length_reverse]; exact hz, its.reverse, 0, r.reverse, Heap.get?_push_size _ rfl⟩
end
end Mw

namespace Mw
open PySem PySem.Spec PyProof.Rows L2
/-! ### all but some is as it was; tuples stay -/
structure Evs (S : List Addr) (H H' : Hp) : Prop where
  ev : ∀ b o, H b = some o → b ∉ S → H' b = some o
  tp : ∀ b xs, H b = some (.tup xs) → H' b = some (.tup xs)
  fz : ∀ b ob u, H b = some (.frz ob u) → H' b = some (.frz ob u)
  th : ∀ b, H' b = none → H b = none
theorem Evs.refl (S : List Addr) (H : Hp) : Evs S H H := ⟨fun _ _ e _ => e, fun _ _ e => e, fun _ _ _ e => e, fun _ e => e⟩
theorem Evs.trans {S : List Addr} {H H1 H2 : Hp} (a : Evs S H H1) (b : Evs S H1 H2) : Evs S H H2 :=
  ⟨fun c o e n => b.ev c o (a.ev c o e n) n, fun c xs e => b.tp c xs (a.tp c xs e), fun c o u e => b.fz c o u (a.fz c o u e), fun c e => a.th c (b.th c e)⟩
theorem Evs.mono {S T : List Addr} {H H' : Hp} (a : Evs S H H') (h : ∀ b ∈ S, b ∈ T) : Evs T H H' := ⟨fun c o e n => a.ev c o e fun z => n (h c z), a.tp, a.fz, a.th⟩
theorem updNone {H : Hp} {p b : Addr} {o : HO} (h : upd H p o b = none) : H b = none ∧ b ≠ p := by
  by_cases e : b = p
  · rw [e, upd_same] at h; cases h
  · rw [upd_ne e] at h; exact ⟨h, e⟩
theorem Evs.new {S : List Addr} {H : Hp} {p : Addr} {o : HO} (n : H p = none) : Evs S H (upd H p o) := by
  have k : ∀ b u, H b = some u → upd H p o b = some u := fun b u e => by rw [upd_ne (ne_of_none e n)]; exact e
  exact ⟨fun b u e _ => k b u e, fun b xs e => k b _ e, fun b ob u e => k b _ e, fun b e => (updNone e).1⟩
/-- over an old one -/
theorem Evs.own {S : List Addr} {H : Hp} {p : Addr} {o u : HO} (hp : p ∈ S) (e : H p = some u) (h2 : ∀ xs, u ≠ .tup xs) (h3 : ∀ ob y, u ≠ .frz ob y) : Evs S H (upd H p o) := by
  refine ⟨fun b z eb nb => ?_, fun b xs eb => ?_, fun b ob y eb => ?_, fun b eb => (updNone eb).1⟩
  · rw [upd_ne (fun q : b = p => nb (by rw [q]; exact hp))]; exact eb
  · rw [upd_ne]
    · exact eb
    · intro q; rw [q, e] at eb; cases eb; exact h2 xs rfl
  · rw [upd_ne]
    · exact eb
    · intro q; rw [q, e] at eb; cases eb; exact h3 ob y rfl
/-- over one that is new since -/
theorem Evs.put {S : List Addr} {H H' : Hp} {p : Addr} {o : HO} (a : Evs S H H') (n : H p = none) : Evs S H (upd H' p o) := by
  have k : ∀ b u, H b = some u → b ≠ p := fun b u e => ne_of_none e n
  exact ⟨fun b u e nb => by rw [upd_ne (k b u e)]; exact a.ev b u e nb, fun b xs e => by rw [upd_ne (k b _ e)]; exact a.tp b xs e, fun b ob u e => by rw [upd_ne (k b _ e)]; exact a.fz b ob u e, fun b e => a.th b (updNone e).1⟩
theorem Ev.evs {F C : Addr} {ns : List Int} {H H' : Hp} (f : Fd F C ns H) (f' : Fd F C ns H') (e : Ev F H H') : Evs [F] H H' := by
  obtain ⟨kvs, hF, _⟩ := f.ex
  refine ⟨fun b o h n => e b o h fun z => n (by simp [z]), fun b xs h => e b _ h fun z => ?_, fun b ob u h => e b _ h fun z => ?_, fun b h => Ev.free f' e h⟩
  · rw [z, hF] at h; cases h
  · rw [z, hF] at h; cases h
theorem Fd.evs {F C : Addr} {ns : List Int} {S : List Addr} {H H' : Hp} (f : Fd F C ns H) (e : Evs S H H') (h1 : F ∉ S) (h2 : C ∉ S) : Fd F C ns H' := by
  obtain ⟨kvs, hF, k⟩ := f.ex
  exact ⟨⟨kvs, e.ev _ _ hF h1, k⟩, e.ev _ _ f.cl h2⟩
/-! ### data of tuples -/
mutual
def tupD : PyData → Bool
  | .list _ => false
  | .dict _ => false
  | .tuple xs => tupAll xs
  | _ => true
def tupAll : List PyData → Bool
  | [] => true
  | x :: xs => tupD x && tupAll xs
end
theorem Evs.sqT {S : List Addr} {K : PySem.W.Frag} {H H' : Hp} {a : Addr} {xs : List V} (e : Evs S H H') (h : SqT K H a xs) : SqT K H' a xs := by
  rcases h with (h | ⟨o, h⟩) | h
  · exact .inl (.inl (e.tp _ _ h))
  · exact .inl (.inr ⟨o, e.fz _ _ _ h⟩)
  · exact .inr h
mutual
theorem Evs.dp {S : List Addr} {K : PySem.W.Frag} {H H' : Hp} (e : Evs S H H') : ∀ {d : PyData} {v : V}, tupD d = true → Dp K H v d → Dp K H' v d
  | _, _, _, .non => .non
  | _, _, _, .bl b => .bl b
  | _, _, _, .int i => .int i
  | _, _, _, .str x => .str x
  | _, _, t, .lst h a => by simp [tupD] at t
  | _, _, t, .tup h a => .tup (e.sqT h) (e.dpAll (by simpa [tupD] using t) a)
theorem Evs.dpAll {S : List Addr} {K : PySem.W.Frag} {H H' : Hp} (e : Evs S H H') : ∀ {ds : List PyData} {vs : List V}, tupAll ds = true → DpAll K H vs ds → DpAll K H' vs ds
  | _, _, _, .nil => .nil
  | _, _, t, .cons h a => by
    have t' := by simpa [tupAll] using t
    exact .cons (e.dp t'.1 h) (e.dpAll t'.2 a)
end
theorem tup_nm (n : Nm) : tupD (nmD n) = true := rfl
theorem tup_nms : ∀ ns : List Nm, tupAll (ns.map nmD) = true
  | [] => rfl
  | n :: r => by simp [tupAll, tup_nm, tup_nms r]
theorem NmA.evs {S : List Addr} {H H' : Hp} {n : Nm} {b : Addr} (h : NmA H n b) (e : Evs S H H') : NmA H' n b := e.tp _ _ h
theorem Nms.evs {S : List Addr} {H H' : Hp} (e : Evs S H H') : ∀ {ns : List Nm} {bs : List Addr}, Nms H ns bs → Nms H' ns bs
  | _, _, .nil => .nil
  | _, _, .cons h t => .cons (h.evs e) (Nms.evs e t)
theorem Nms.dpAll {K : PySem.W.Frag} {H : Hp} : ∀ {ns : List Nm} {bs : List Addr}, Nms H ns bs → DpAll K H (bs.map V.ref) (ns.map nmD)
  | _, _, .nil => .nil
  | _, _, .cons h t => .cons h.dp (Nms.dpAll t)
theorem Nms.len {H : Hp} {ns : List Nm} {bs : List Addr} (h : Nms H ns bs) : ns.length = bs.length := Paired.length h
theorem Nms.at {H : Hp} : ∀ {ns : List Nm} {bs : List Addr} {i : Nat} {b : Addr}, Nms H ns bs → bs[i]? = some b → ∃ n, ns[i]? = some n ∧ NmA H n b
  | _, _, _, _, .nil, e => by simp at e
  | _, _, 0, _, .cons h t, e => by simp at e; subst e; exact ⟨_, by simp, h⟩
  | _, _, i + 1, _, .cons h t, e => by
    obtain ⟨n, h1, h2⟩ := Nms.at t (i := i) (by simpa using e)
    exact ⟨n, by simpa using h1, h2⟩
theorem Nms.snoc {H : Hp} : ∀ {ns : List Nm} {bs : List Addr} {n : Nm} {b : Addr}, Nms H ns bs → NmA H n b → Nms H (ns ++ [n]) (bs ++ [b])
  | _, _, _, _, .nil, h => .cons h .nil
  | _, _, _, _, .cons h t, h2 => .cons h (Nms.snoc t h2)
/-! ### deeds, changes, worlds -/
inductive Deed where
  | join
  | hang (wide : Bool) (l : Str)
  | answer (n : Nm) (l : Str)
  | put (l : Str)
def kindS : Deed → Str
  | .join => Str.ofString "join"
  | .hang _ _ => Str.ofString "hang"
  | .answer _ _ => Str.ofString "answer"
  | .put _ => Str.ofString "put"
def restD : Deed → List PyData
  | .join => []
  | .hang w l => [.int 0, .int 1, .str (Str.ofString (if w then "wide" else "shut")), .str l]
  | .answer n l => [nmD n, .str l]
  | .put l => [.int 0, .str l]
def deedD (d : Deed) : PyData := .tuple (.str (kindS d) :: restD d)
structure Ch where
  nm : Nm
  hand : Str
  base : List Nm
  deed : Deed
  kn : List Nm
def chD (c : Ch) : PyData := .tuple [nmD c.nm, .str c.hand, .tuple (c.base.map nmD), deedD c.deed]
theorem tup_deed (d : Deed) : tupD (deedD d) = true := by cases d <;> simp [deedD, restD, tupD, tupAll, nmD]
theorem tup_ch (c : Ch) : tupD (chD c) = true := by simp [chD, tupD, tupAll, tup_nm, tup_nms, tup_deed]
/-- a change in the heap: plain tuples all the way -/
def ChA (K : PySem.W.Frag) (H : Hp) (v : V) (c : Ch) : Prop := ∃ (q b tb : Addr) (bb : List Addr) (v3 : V), v = .ref q ∧ H q = some (.tup [.ref b, .str c.hand, .ref tb, v3]) ∧ NmA H c.nm b ∧ H tb = some (.tup (bb.map V.ref)) ∧ Nms H c.base bb ∧ Dp K H v3 (deedD c.deed)
theorem ChA.dp {K : PySem.W.Frag} {H : Hp} {v : V} {c : Ch} (h : ChA K H v c) : Dp K H v (chD c) := by
  obtain ⟨q, b, tb, bb, v3, rfl, h1, h2, h3, h4, h5⟩ := h
  exact .tup (.inl (.inl h1)) (.cons h2.dp (.cons (.str _) (.cons (.tup (.inl (.inl h3)) h4.dpAll) (.cons h5 .nil))))
theorem ChA.evs {S : List Addr} {K : PySem.W.Frag} {H H' : Hp} {v : V} {c : Ch} (h : ChA K H v c) (e : Evs S H H') : ChA K H' v c := by
  obtain ⟨q, b, tb, bb, v3, rfl, h1, h2, h3, h4, h5⟩ := h
  exact ⟨q, b, tb, bb, v3, rfl, e.tp _ _ h1, h2.evs e, e.tp _ _ h3, Nms.evs e h4, e.dp (tup_deed _) h5⟩
abbrev ChAs (K : PySem.W.Frag) (H : Hp) (vs : List V) (cs : List Ch) : Prop := Paired (ChA K H) vs cs
theorem ChAs.dpAll {K : PySem.W.Frag} {H : Hp} : ∀ {vs : List V} {cs : List Ch}, ChAs K H vs cs → DpAll K H vs (cs.map chD)
  | _, _, .nil => .nil
  | _, _, .cons h t => .cons h.dp (ChAs.dpAll t)
theorem ChAs.evs {S : List Addr} {K : PySem.W.Frag} {H H' : Hp} (e : Evs S H H') : ∀ {vs : List V} {cs : List Ch}, ChAs K H vs cs → ChAs K H' vs cs
  | _, _, .nil => .nil
  | _, _, .cons h t => .cons (h.evs e) (ChAs.evs e t)
theorem ChAs.at {K : PySem.W.Frag} {H : Hp} : ∀ {vs : List V} {cs : List Ch} {i : Nat} {v : V}, ChAs K H vs cs → vs[i]? = some v → ∃ c, cs[i]? = some c ∧ ChA K H v c
  | _, _, i, v, .nil, h => by simp at h
  | _, _, 0, v, .cons h t, e => by simp at e; subst e; exact ⟨_, by simp, h⟩
  | _, _, i + 1, v, .cons h t, e => by
    obtain ⟨d, h1, h2⟩ := ChAs.at t (i := i) (by simpa using e)
    exact ⟨d, by simpa using h1, h2⟩
theorem ChAs.snoc {K : PySem.W.Frag} {H : Hp} : ∀ {vs : List V} {cs : List Ch} {v : V} {c : Ch}, ChAs K H vs cs → ChA K H v c → ChAs K H (vs ++ [v]) (cs ++ [c])
  | _, _, _, _, .nil, h => .cons h .nil
  | _, _, _, _, .cons h t, h2 => .cons h (ChAs.snoc t h2)
theorem ChAs.len {K : PySem.W.Frag} {H : Hp} {vs : List V} {cs : List Ch} (h : ChAs K H vs cs) : vs.length = cs.length := Paired.length h
abbrev names (cs : List Ch) : List Nm := cs.map (·.nm)
def findC (cs : List Ch) (n : Nm) : Option Ch := cs.find? fun c => decide (c.nm = n)
def knOf (cs : List Ch) (n : Nm) : List Nm := ((findC cs n).map (·.kn)).getD []
theorem findC_mem {cs : List Ch} {n : Nm} (h : n ∈ names cs) : ∃ c, findC cs n = some c ∧ c ∈ cs ∧ c.nm = n := by
  obtain ⟨c, hc, e⟩ := List.mem_map.mp h
  have : (findC cs n).isSome = true := by
    unfold findC
    rw [List.find?_isSome]
    exact ⟨c, hc, decide_eq_true e⟩
  obtain ⟨c', hc'⟩ := Option.isSome_iff_exists.mp this
  exact ⟨c', hc', List.mem_of_find?_eq_some hc', of_decide_eq_true (List.find?_some (p := fun c : Ch => decide (c.nm = n)) hc')⟩
def ins (l : List Nm) (n : Nm) : List Nm := if n ∈ l then l else l ++ [n]
def gather (l : List Nm) : List Nm := l.foldl ins []
theorem ins_nodup {l : List Nm} {n : Nm} (h : l.Nodup) : (ins l n).Nodup := by
  unfold ins
  split
  · exact h
  · rename_i hn
    rw [List.nodup_append]
    exact ⟨h, by simp, fun a ha b hb => by rw [List.mem_singleton.mp hb]; exact fun e => hn (e ▸ ha)⟩
theorem mem_ins {l : List Nm} {n m : Nm} : m ∈ ins l n ↔ m ∈ l ∨ m = n := by
  unfold ins
  split
  · rename_i h
    exact ⟨.inl, fun z => z.elim id fun e => e ▸ h⟩
  · rw [List.mem_append, List.mem_singleton]
theorem fold_nodup : ∀ (l acc : List Nm), acc.Nodup → (l.foldl ins acc).Nodup
  | [], _, h => h
  | n :: l, acc, h => fold_nodup l (ins acc n) (ins_nodup h)
theorem mem_fold {m : Nm} : ∀ (l acc : List Nm), m ∈ l.foldl ins acc ↔ m ∈ acc ∨ m ∈ l
  | [], _ => by simp
  | n :: l, acc => by
    rw [List.foldl_cons, mem_fold l, mem_ins, List.mem_cons]
    constructor
    · rintro ((h | h) | h)
      · exact .inl h
      · exact .inr (.inl h)
      · exact .inr (.inr h)
    · rintro (h | h | h)
      · exact .inl (.inl h)
      · exact .inl (.inr h)
      · exact .inr h
theorem gather_nodup (l : List Nm) : (gather l).Nodup := fold_nodup l [] .nil
theorem mem_gather {l : List Nm} {m : Nm} : m ∈ gather l ↔ m ∈ l := by unfold gather; rw [mem_fold]; simp
def want (cs : List Ch) (gs : List Nm) : List Nm := gather (gs.flatMap fun g => knOf cs g ++ [g])
def below (cs : List Ch) (fl : List Nm) : List Nm := gather (fl.flatMap (knOf cs))
def mkCh (cs : List Ch) (br : Str) (gs : List Nm) (hand : Str) (deed : Deed) : Ch where
  nm := (1 + maxZ 0 ((srt (want cs gs)).map (·.1)), br)
  hand := hand
  base := (srt (want cs gs)).filter fun n => !decide (n ∈ below cs (srt (want cs gs)))
  deed := deed
  kn := srt (want cs gs)
def lastOf (br : Str) (cs : List Ch) : Option Nm := cs.foldl (fun a c => if c.nm.2 = br then some c.nm else a) none
theorem lastOf_snoc (br : Str) (cs : List Ch) (c : Ch) : lastOf br (cs ++ [c]) = if c.nm.2 = br then some c.nm else lastOf br cs := by
  unfold lastOf; rw [List.foldl_append]; rfl
structure Wrd (z : Str) : Prop where
  one : 1 ≤ z.length
  most : z.length ≤ 8
  low : ∀ c ∈ z.cps.toList, 97 ≤ c ∧ c ≤ 122
structure Ltr (z : Str) : Prop where
  one : 1 ≤ z.length
  most : z.length ≤ 5
  low : ∀ c ∈ z.cps.toList, (97 ≤ c ∧ c ≤ 122) ∨ c = 32
def kindAt (cs : List Ch) (n : Nm) (k : String) : Prop := ∃ c, findC cs n = some c ∧ kindS c.deed = Str.ofString k
def DeedOk (cs : List Ch) (base fl : List Nm) : Deed → Prop
  | .join => 1 < base.length
  | .hang _ l => Ltr l ∧ ∃ n ∈ fl, kindAt cs n "put"
  | .answer n l => Ltr l ∧ n ∈ fl ∧ kindAt cs n "hang"
  | .put l => Ltr l
structure StepOk (ws : List Str) (cs : List Ch) (c : Ch) : Prop where
  ex : ∃ (br hand : Str) (gs : List Nm) (deed : Deed), br ∈ ws ∧ hand ∈ ws ∧ (∀ g ∈ gs, g ∈ names cs) ∧ (∀ n, lastOf br cs = some n → n ∈ gs) ∧ c = mkCh cs br gs hand deed ∧ DeedOk cs c.base c.kn deed
inductive Wr (ws : List Str) : List Ch → Prop
  | nil : Wr ws []
  | snoc {cs : List Ch} {c : Ch} : Wr ws cs → StepOk ws cs c → Wr ws (cs ++ [c])
/-- what a name knows is there -/
theorem knOf_snoc_old {cs : List Ch} {c : Ch} {n : Nm} (h : n ∈ names cs) : findC (cs ++ [c]) n = findC cs n := by
  obtain ⟨c', h1, _⟩ := findC_mem h
  unfold findC at h1 ⊢
  rw [List.find?_append, h1]
  rfl
theorem maxZ_ge : ∀ {l : List Int} {x : Int}, x ∈ l → x ≤ maxZ 0 l
  | n :: r, x, h => by
    have fold : ∀ (r : List Int) (a : Int), a ≤ r.foldl max a ∧ ∀ y ∈ r, y ≤ r.foldl max a := by
      intro r
      induction r with
      | nil => intro a; exact ⟨Int.le_refl _, fun y hy => by cases hy⟩
      | cons m r ih =>
        intro a
        rw [List.foldl_cons]
        obtain ⟨h1, h2⟩ := ih (max a m)
        refine ⟨Int.le_trans (Int.le_max_left a m) h1, fun y hy => ?_⟩
        rcases List.mem_cons.mp hy with e | hy
        · rw [e]; exact Int.le_trans (Int.le_max_right a m) h1
        · exact h2 y hy
    obtain ⟨h1, h2⟩ := fold r n
    rcases List.mem_cons.mp h with e | h
    · rw [e]; exact h1
    · exact h2 x h
theorem mem_want {cs : List Ch} {gs : List Nm} {g : Nm} (h : g ∈ gs) : g ∈ want cs gs := by
  unfold want; rw [mem_gather, List.mem_flatMap]; exact ⟨g, h, by simp⟩
theorem step_above {ws : List Str} {cs : List Ch} {c : Ch} (s : StepOk ws cs c) {n : Nm} (h : lastOf c.nm.2 cs = some n) : n.1 < c.nm.1 := by
  obtain ⟨br, hand, gs, deed, _, _, _, hl, rfl, _⟩ := s.ex
  have h1 := mem_want (cs := cs) (hl n h)
  have h2 : n.1 ∈ (srt (want cs gs)).map (·.1) := List.mem_map.mpr ⟨n, mem_srt.mpr h1, rfl⟩
  have h3 := maxZ_ge h2
  show n.1 < 1 + maxZ 0 ((srt (want cs gs)).map (·.1))
  omega
theorem last_max {ws : List Str} {cs : List Ch} (w : Wr ws cs) : ∀ c ∈ cs, ∃ m, lastOf c.nm.2 cs = some m ∧ c.nm.1 ≤ m.1 := by
  induction w with
  | nil => intro c hc; cases hc
  | snoc w s ih =>
    rename_i cs c0
    intro c hc
    rw [lastOf_snoc]
    rcases List.mem_append.mp hc with h | h
    · obtain ⟨m, h1, h2⟩ := ih c h
      by_cases e : c0.nm.2 = c.nm.2
      · rw [if_pos e]
        refine ⟨c0.nm, rfl, ?_⟩
        rw [← e] at h1
        have := step_above s h1
        omega
      · rw [if_neg e]; exact ⟨m, h1, h2⟩
    · rw [List.mem_singleton.mp h, if_pos rfl]
      exact ⟨_, rfl, Int.le_refl _⟩
theorem step_new {ws : List Str} {cs : List Ch} {c : Ch} (w : Wr ws cs) (s : StepOk ws cs c) : c.nm ∉ names cs := fun h => by
  obtain ⟨c', hc, e⟩ := List.mem_map.mp h
  obtain ⟨m, h1, h2⟩ := last_max w c' hc
  rw [e] at h1 h2
  have := step_above s h1
  omega
/-! ### the world in the heap -/
structure Wa where
  W : Addr
  A1 : Addr
  A2 : Addr
  A3 : Addr
  A4 : Addr
abbrev kCh : Key := Sum.inr "changes"
abbrev kKn : Key := Sum.inr "knows"
abbrev kLa : Key := Sum.inr "last"
abbrev kHa : Key := Sum.inr "hangs"
structure Wd (K : PySem.W.Frag) (a : Wa) (cs : List Ch) (H : Hp) : Prop where
  w : ∃ kvs, H a.W = some (.dK kvs) ∧ valV kvs kCh = some (.ref a.A1) ∧ valV kvs kKn = some (.ref a.A2) ∧ valV kvs kLa = some (.ref a.A3) ∧ valV kvs kHa = some (.ref a.A4)
  c1 : ∃ kvs, H a.A1 = some (.dT kvs) ∧ Paired (fun (c : Ch) (kv : List Key × V) => kv.1 = nmK c.nm ∧ ChA K H kv.2 c) cs kvs
  c2 : ∃ kvs, H a.A2 = some (.dT kvs) ∧ Paired (fun (c : Ch) (kv : List Key × V) => kv.1 = nmK c.nm ∧ ∃ l bs, kv.2 = .ref l ∧ l ≠ a.A4 ∧ H l = some (.lst (bs.map V.ref)) ∧ Nms H c.kn bs) cs kvs
  c3 : ∃ kvs, H a.A3 = some (.dK kvs) ∧ kvs.length ≤ cs.length ∧ ∀ br, (lastOf br cs = none ∧ valV kvs (.inr br) = none) ∨ ∃ n b, lastOf br cs = some n ∧ valV kvs (.inr br) = some (.ref b) ∧ NmA H n b
  c4 : ∃ bs : List Addr, H a.A4 = some (.lst (bs.map V.ref)) ∧ bs.length ≤ cs.length
  ne : a.A1 ≠ a.A2
theorem Wd.evs {K : PySem.W.Frag} {a : Wa} {cs : List Ch} {S : List Addr} {H H' : Hp} (w : Wd K a cs H) (e : Evs S H H') (hs : ∀ b ∈ S, b ≠ a.W ∧ b ≠ a.A1 ∧ b ≠ a.A2 ∧ b ≠ a.A3 ∧ b ≠ a.A4) (hl : ∀ b ∈ S, ∀ xs, H b ≠ some (.lst xs)) : Wd K a cs H' := by
  obtain ⟨kw, w1, w2, w3, w4, w5⟩ := w.w
  obtain ⟨k1, p1, p2⟩ := w.c1
  obtain ⟨k2, q1, q2⟩ := w.c2
  obtain ⟨k3, r1, r2, r3⟩ := w.c3
  obtain ⟨bs, s1, s2⟩ := w.c4
  refine ⟨⟨kw, e.ev _ _ w1 fun z => (hs _ z).1 rfl, w2, w3, w4, w5⟩, ⟨k1, e.ev _ _ p1 fun z => (hs _ z).2.1 rfl, Paired.mapP p2 fun c kv z => ⟨z.1, z.2.evs e⟩⟩, ⟨k2, e.ev _ _ q1 fun z => (hs _ z).2.2.1 rfl, Paired.mapP q2 fun c kv z => ?_⟩,
    ⟨k3, e.ev _ _ r1 fun z => (hs _ z).2.2.2.1 rfl, r2, fun br => ?_⟩, ⟨bs, e.ev _ _ s1 fun z => (hs _ z).2.2.2.2 rfl, s2⟩, w.ne⟩
  · obtain ⟨z1, l, cs', z2, z3, z4, z5⟩ := z
    exact ⟨z1, l, cs', z2, z3, e.ev _ _ z4 fun y => hl _ y _ z4, Nms.evs e z5⟩
  · rcases r3 br with h | ⟨n, b, h1, h2, h3⟩
    · exact .inl h
    · exact .inr ⟨n, b, h1, h2, h3.evs e⟩
/-- a change, by its name -/
theorem pair_get {P : Ch → V → Prop} : ∀ {cs : List Ch} {kvs : List (List Key × V)} {n : Nm}, Paired (fun (c : Ch) (kv : List Key × V) => kv.1 = nmK c.nm ∧ P c kv.2) cs kvs → n ∈ names cs → ∃ c v, findC cs n = some c ∧ valV kvs (nmK n) = some v ∧ P c v
  | _, _, n, .nil, h => by cases h
  | c :: cs, kv :: kvs, n, .cons hk t, h => by
    by_cases e : c.nm = n
    · refine ⟨c, kv.2, ?_, valV_pos (by rw [hk.1, e]), hk.2⟩
      unfold findC
      rw [List.find?_cons, decide_eq_true e]
    · have h' : n ∈ names cs := by
        rcases List.mem_cons.mp h with z | z
        · exact absurd z.symm e
        · exact z
      obtain ⟨c', v, h1, h2, h3⟩ := pair_get t h'
      refine ⟨c', v, ?_, ?_, h3⟩
      · unfold findC at h1 ⊢
        rw [List.find?_cons, decide_eq_false e]
        exact h1
      · rw [valV_neg]
        · exact h2
        · rw [hk.1]
          exact fun z => e (nmK_inj z)
theorem pair_none {P : Ch → V → Prop} : ∀ {cs : List Ch} {kvs : List (List Key × V)} {n : Nm}, Paired (fun (c : Ch) (kv : List Key × V) => kv.1 = nmK c.nm ∧ P c kv.2) cs kvs → n ∉ names cs → valV kvs (nmK n) = none
  | _, _, n, .nil, h => rfl
  | c :: cs, kv :: kvs, n, .cons hk t, h => by
    have h1 : ¬ c.nm = n := fun e => h (by simp [e])
    rw [valV_neg]
    · exact pair_none t fun z => h (List.mem_cons_of_mem _ z)
    · rw [hk.1]
      exact fun z => h1 (nmK_inj z)
theorem pair_keys {P : Ch → V → Prop} : ∀ {cs : List Ch} {kvs : List (List Key × V)}, Paired (fun (c : Ch) (kv : List Key × V) => kv.1 = nmK c.nm ∧ P c kv.2) cs kvs → kvs.map (·.1) = (names cs).map nmK
  | _, _, .nil => rfl
  | _, _, .cons hk t => by
    rw [List.map_cons, pair_keys t, hk.1]
    rfl
theorem pair_snoc {P : Ch → List Key × V → Prop} : ∀ {cs : List Ch} {kvs : List (List Key × V)} {c : Ch} {kv : List Key × V}, Paired P cs kvs → P c kv → Paired P (cs ++ [c]) (kvs ++ [kv])
  | _, _, _, _, .nil, h => .cons h .nil
  | _, _, _, _, .cons h t, h2 => .cons h (pair_snoc t h2)
end Mw

namespace Mw
open PySem PySem.Spec PyProof.Rows L2
structure Txt (mg : Str → Option Value) : Prop where
  isi : mg "isinstance" = none
  int : mg "int" = none
  bool : mg "bool" = none
  str : mg "str" = none
  tup : mg "tuple" = none
  len : mg "len" = none
  all : mg "all" = none
  any : mg "any" = none
  range : mg "range" = none
  ord : mg "ord" = none
  repr : mg "repr" = none
  lst : mg "list" = none
  max : mg "max" = none
  sorted : mg "sorted" = none
  zip : mg "zip" = none
theorem r65 {k : Nat} {A : Around} (r : Room k A) : A.units + 65 < cLine := by have := r.un; omega
theorem r16 {k : Nat} {A : Around} (r : Room k A) : A.units + 16 < cLine := by have := r.un; omega
theorem byR {R G : Prop} (main : R → G) (rest : R) : G := main rest
theorem dg {H : Hp} {F : Addr} {kvs : List (Key × V)} {k : Key} {v : V} (h : H F = some (.dK kvs)) (e : valV kvs k = some v) : DGet H F (kV k) (some v) := by
  have z := DGet.k (k := k) h
  rw [e] at z
  exact z
theorem dgT {H : Hp} {F b : Addr} {kvs : List (List Key × V)} {n : Nm} {o : Option V} (h : H F = some (.dT kvs)) (hb : NmA H n b) (e : valV kvs (nmK n) = o) : DGet H F (.ref b) o := by
  have z := DGet.t (k := nmK n) h hb
  rw [e] at z
  exact z
theorem lenPos {ns : List Int} (h : ns ≠ []) : (0 : Int) < ((ns.map V.int).length : Int) := by
  cases ns with
  | nil => exact absurd rfl h
  | cons x r => rw [List.map_cons, List.length_cons]; omega
theorem item_at {ns : List Int} (h : ns ≠ []) (n : Int) : ∃ cell : Int, atI (ns.map V.int) (n % ((ns.map V.int).length : Int)) = some (.int cell) := by
  have hp := lenPos h
  have h1 := Int.emod_nonneg n (show ((ns.map V.int).length : Int) ≠ 0 by omega)
  have h2 := Int.emod_lt_of_pos n hp
  obtain ⟨j, hj⟩ : ∃ j : Nat, n % ((ns.map V.int).length : Int) = (j : Int) := ⟨_, (Int.toNat_of_nonneg h1).symm⟩
  rw [hj] at h2 ⊢
  have hjl : j < ns.length := by rw [List.length_map] at h2; omega
  exact ⟨ns[j], atI_nat (by rw [List.getElem?_map, List.getElem?_eq_getElem hjl]; rfl)⟩
theorem cut63 (ns : List Int) (h : ns.length ≤ 63) : cutV (ns.map V.int) none (some 63) = ns.map V.int := by
  unfold cutV
  rw [HT.sIx_none, show HT.sIx (ns.map V.int).length (ns.map V.int).length (some 63) = min 63 (ns.map V.int).length from HT.sIx_nat _ _ 63, List.drop_zero, Nat.sub_zero]
  exact List.take_of_length_le (by rw [List.length_map]; omega)
/-! ### an address apart -/
theorem Fd.apart {F C : Addr} {ns : List Int} {H : Hp} (f : Fd F C ns H) {p : Addr} (n : H p = none) : p ≠ F ∧ p ≠ C := by
  obtain ⟨kvs, hF, _⟩ := f.ex
  exact ⟨(fun z => by rw [z, hF] at n; cases n), (fun z => by rw [z, f.cl] at n; cases n)⟩
/-! ### letters -/
theorem low_of {s : String} (h : ((Str.ofString s).cps.toList.all fun c => decide (97 ≤ c) && decide (c ≤ 122)) = true) : ∀ c ∈ (Str.ofString s).cps.toList, 97 ≤ c ∧ c ≤ 122 := fun c hc => by
  have := List.all_eq_true.mp h c hc
  rw [Bool.and_eq_true] at this
  exact ⟨of_decide_eq_true this.1, of_decide_eq_true this.2⟩
theorem at_mem {α : Type} {xs : List α} {r : Int} {c : α} (h : atI xs r = some c) : c ∈ xs := by
  unfold atI at h
  obtain ⟨j, _, hj⟩ := Option.bind_eq_some_iff.mp h
  exact List.mem_of_getElem? hj
theorem cl_one (c : Nat) : (⟨#[c]⟩ : Str).cps.toList = [c] := rfl
theorem sum_le_len : ∀ {ys : List Str}, (∀ y ∈ ys, y.length ≤ 1) → (ys.map (·.length)).sum ≤ ys.length
  | [], _ => Nat.le_refl _
  | y :: r, h => by
    have h1 := h y (by simp)
    have h2 := sum_le_len (ys := r) fun z hz => h z (List.mem_cons_of_mem _ hz)
    rw [List.map_cons, List.sum_cons, List.length_cons]
    omega
/-- a text put together from signs -/
theorem join_ones : ∀ (l : List Nat), (Str.join Str.empty (l.map fun c => (⟨#[c]⟩ : Str))).cps.toList = l
  | [] => rfl
  | [c] => rfl
  | c :: d :: r => by
    have ih := join_ones (d :: r)
    show ((⟨#[c]⟩ : Str) ++ Str.empty ++ Str.join Str.empty ((d :: r).map fun c => (⟨#[c]⟩ : Str))).cps.toList = c :: d :: r
    rw [cl_append, cl_append, ih]
    rfl
theorem str_len (z : Str) : z.length = z.cps.toList.length := by simp [Str.length]
theorem rep_one (c n : Nat) : (repS ⟨#[c]⟩ n).cps.toList = List.replicate n c := by
  unfold repS
  show (List.replicate n [c]).flatten.toArray.toList = _
  simp [List.flatten_replicate_singleton]
theorem cutS_sub {z : Str} {lo hi : Option Int} : ∀ c ∈ (cutS z lo hi).cps.toList, c ∈ z.cps.toList := fun c hc => by
  have hc' : c ∈ ((z.cps.toList.drop (HT.sIx z.length 0 lo)).take (HT.sIx z.length z.length hi - HT.sIx z.length 0 lo)).toArray.toList := hc
  rw [List.toList_toArray] at hc'
  exact List.mem_of_mem_drop (List.mem_of_mem_take hc')
theorem fiF {P : Prop} {b : Bool} (h : b = false) (q : P) {R : Prop} : if b = true then R else P := by rw [h]; exact q
end Mw

namespace Mw
open PySem PySem.Spec PyProof.Rows L2
/-! ### the world, one change more -/
theorem nodup_len {α : Type} [DecidableEq α] : ∀ {l m : List α}, l.Nodup → (∀ x ∈ l, x ∈ m) → l.length ≤ m.length
  | [], _, _, _ => Nat.zero_le _
  | x :: l, m, h, s => by
    have hx := List.nodup_cons.mp h
    have hm : x ∈ m := s x (by simp)
    have h1 : l.length ≤ (m.erase x).length := nodup_len hx.2 fun y hy => (List.mem_erase_of_ne (fun e => hx.1 (by rw [← e]; exact hy))).mpr (s y (List.mem_cons_of_mem _ hy))
    have h2 := List.length_erase_of_mem hm
    have h3 : 0 < m.length := List.length_pos_of_mem hm
    rw [List.length_cons]
    omega
theorem kn_sub {ws : List Str} {cs : List Ch} (w : Wr ws cs) : ∀ c ∈ cs, ∀ n ∈ c.kn, n ∈ names cs := by
  induction w with
  | nil => intro c hc; cases hc
  | snoc w s ih =>
    rename_i cs c0
    intro c hc n hn
    rcases List.mem_append.mp hc with h | h
    · have := ih c h n hn
      show n ∈ (cs ++ [c0]).map (·.nm)
      rw [List.map_append]
      exact List.mem_append_left _ this
    · rw [List.mem_singleton.mp h] at hn
      obtain ⟨br, hand, gs, deed, _, _, hg, _, e, _⟩ := s.ex
      rw [e] at hn
      have hn' : n ∈ want cs gs := mem_srt.mp hn
      unfold want at hn'
      rw [mem_gather, List.mem_flatMap] at hn'
      obtain ⟨g, hgg, hng⟩ := hn'
      show n ∈ (cs ++ [c0]).map (·.nm)
      rw [List.map_append]
      refine List.mem_append_left _ ?_
      rcases List.mem_append.mp hng with h | h
      · obtain ⟨c', h1, h2, _⟩ := findC_mem (hg g hgg)
        unfold knOf at h
        rw [h1] at h
        exact ih c' h2 n h
      · rw [List.mem_singleton.mp h]; exact hg g hgg
theorem kn_of_sub {ws : List Str} {cs : List Ch} (w : Wr ws cs) {g n : Nm} (h : n ∈ knOf cs g) : n ∈ names cs := by
  unfold knOf at h
  cases e : findC cs g with
  | none => rw [e] at h; cases h
  | some c =>
    rw [e] at h
    exact kn_sub w c (List.mem_of_find?_eq_some e) n h
theorem want_sub {ws : List Str} {cs : List Ch} (w : Wr ws cs) {gs : List Nm} (hg : ∀ g ∈ gs, g ∈ names cs) {n : Nm} (h : n ∈ want cs gs) : n ∈ names cs := by
  unfold want at h
  rw [mem_gather, List.mem_flatMap] at h
  obtain ⟨g, hgg, hng⟩ := h
  rcases List.mem_append.mp hng with h | h
  · exact kn_of_sub w h
  · rw [List.mem_singleton.mp h]; exact hg g hgg
theorem want_len {ws : List Str} {cs : List Ch} (w : Wr ws cs) {gs : List Nm} (hg : ∀ g ∈ gs, g ∈ names cs) : (want cs gs).length ≤ cs.length := by
  have := nodup_len (gather_nodup (gs.flatMap fun g => knOf cs g ++ [g])) (m := names cs) fun n hn => want_sub w hg hn
  rwa [List.length_map] at this
theorem br_in {ws : List Str} {cs : List Ch} (w : Wr ws cs) : ∀ n ∈ names cs, n.2 ∈ ws := by
  induction w with
  | nil => intro n hn; cases hn
  | snoc w s ih =>
    rename_i cs c0
    intro n hn
    have hn' : n ∈ (cs ++ [c0]).map (·.nm) := hn
    rw [List.map_append] at hn'
    rcases List.mem_append.mp hn' with h | h
    · exact ih n h
    · obtain ⟨br, hand, gs, deed, hb, _, _, _, e, _⟩ := s.ex
      rw [List.mem_singleton.mp h, e]
      exact hb
theorem last_in (br : Str) : ∀ (cs : List Ch) {n : Nm}, lastOf br cs = some n → n ∈ names cs := by
  intro cs n h
  have gen : ∀ (cs : List Ch) (o : Option Nm), cs.foldl (fun a c => if c.nm.2 = br then some c.nm else a) o = some n → o = some n ∨ n ∈ names cs := by
    intro cs
    induction cs with
    | nil => intro o h; exact .inl h
    | cons c r ih =>
      intro o h
      rcases ih _ h with z | z
      · have z : (if c.nm.2 = br then some c.nm else o) = some n := z
        by_cases e : c.nm.2 = br
        · rw [if_pos e] at z
          exact .inr (by rw [← Option.some.inj z]; exact List.mem_cons_self ..)
        · rw [if_neg e] at z
          exact .inl z
      · exact .inr (List.mem_cons_of_mem _ z)
  rcases gen cs none h with z | z
  · cases z
  · exact z
/-! ### a dict of names, each True -/
abbrev yes (n : Nm) : List Key × V := (nmK n, V.bl true)
theorem valV_yes {n : Nm} : ∀ acc : List Nm, valV (acc.map yes) (nmK n) = if n ∈ acc then some (V.bl true) else none
  | [] => rfl
  | m :: acc => by
    by_cases e : m = n
    · rw [List.map_cons, valV_pos (by rw [e]), if_pos (by simp [e])]
    · have : ¬ nmK m = nmK n := fun z => e (nmK_inj z)
      rw [List.map_cons, valV_neg this, valV_yes acc]
      by_cases h : n ∈ acc
      · rw [if_pos h, if_pos (List.mem_cons_of_mem _ h)]
      · rw [if_neg h, if_neg (fun z => (List.mem_cons.mp z).elim (fun q => e q.symm) h)]
theorem put_yes {n : Nm} (acc : List Nm) : putK (acc.map yes) (nmK n) (V.bl true) = (ins acc n).map yes := by
  unfold ins
  by_cases h : n ∈ acc
  · rw [if_pos h]
    unfold putK
    rw [valV_any, valV_yes, if_pos h, if_pos (show (some (V.bl true)).isSome = true from rfl), List.map_map]
    refine List.map_congr_left fun m _ => ?_
    show (if (yes m).1 = nmK n then ((yes m).1, V.bl true) else yes m) = yes m
    split <;> rfl
  · rw [if_neg h, putK_new _ (by rw [valV_yes, if_neg h]), List.map_append]
    rfl
theorem ins_len (acc : List Nm) (n : Nm) : (ins acc n).length ≤ acc.length + 1 := by
  unfold ins
  split
  · omega
  · rw [List.length_append]; exact Nat.le_refl _
theorem fold_len : ∀ (l acc : List Nm), (l.foldl ins acc).length ≤ acc.length + l.length
  | [], acc => Nat.le_refl _
  | n :: l, acc => by
    have h1 := fold_len l (ins acc n)
    have h2 := ins_len acc n
    rw [List.foldl_cons, List.length_cons]
    omega
theorem putK_le (kvs : List (Key × V)) (k : Key) (v : V) : (putK kvs k v).length ≤ kvs.length + 1 := by
  unfold putK
  split
  · rw [List.length_map]; omega
  · rw [List.length_append]; exact Nat.le_refl _
theorem wd_done {K : PySem.W.Frag} {a : Wa} {cs : List Ch} {H Hf : Hp} {c : Ch} {F ow l : Addr} {bf : List Addr} {v : V} (wd : Wd K a cs H) (e : Evs [F, a.A1, a.A2, a.A3, a.A4] H Hf) (fw : F ≠ a.W) (w3 : a.W ≠ a.A3) (nl : ∀ xs, H F ≠ some (.lst xs)) (new : c.nm ∉ names cs)
    (k1 : ∀ k, H a.A1 = some (.dT k) → Hf a.A1 = some (.dT (putK k (nmK c.nm) v))) (k2 : ∀ k, H a.A2 = some (.dT k) → Hf a.A2 = some (.dT (putK k (nmK c.nm) (.ref l)))) (k3 : ∀ k, H a.A3 = some (.dK k) → Hf a.A3 = some (.dK (putK k (.inr c.nm.2) (.ref ow))))
    (k4 : ∃ bs : List Addr, Hf a.A4 = some (.lst (bs.map V.ref)) ∧ bs.length ≤ cs.length + 1) (dv : ChA K Hf v c) (hl : l ≠ a.A4) (hf : Hf l = some (.lst (bf.map V.ref))) (nf : Nms Hf c.kn bf) (ho : NmA Hf c.nm ow) : Wd K a (cs ++ [c]) Hf := by
  obtain ⟨kw, w1, w2, w4, w5, w6⟩ := wd.w
  obtain ⟨q1, p1, p2⟩ := wd.c1
  obtain ⟨q2, r1, r2⟩ := wd.c2
  obtain ⟨q3, s1, s2, s3⟩ := wd.c3
  obtain ⟨b4, t1, t2⟩ := wd.c4
  have new1 := pair_none (P := fun c v => ChA K H v c) p2 new
  have new2 := pair_none (P := fun c v => ∃ l bs, v = .ref l ∧ l ≠ a.A4 ∧ H l = some (.lst (bs.map V.ref)) ∧ Nms H c.kn bs) r2 new
  have hk1 := k1 _ p1
  have hk2 := k2 _ r1
  have hk3 := k3 _ s1
  rw [putK_new _ new1] at hk1
  rw [putK_new _ new2] at hk2
  refine ⟨⟨kw, e.ev _ _ w1 ?_, w2, w4, w5, w6⟩, ⟨_, hk1, pair_snoc (Paired.mapP p2 fun c kv z => ⟨z.1, z.2.evs e⟩) ⟨rfl, dv⟩⟩, ⟨_, hk2, pair_snoc (Paired.mapP r2 fun c kv z => ?_) ⟨rfl, l, bf, rfl, hl, hf, nf⟩⟩, ⟨_, hk3, ?_, fun br => ?_⟩, ?_, wd.ne⟩
  · simp only [List.mem_cons, List.not_mem_nil, or_false, not_or]
    exact ⟨Ne.symm fw, ne_of w1 p1 (fun z => by cases z), ne_of w1 r1 (fun z => by cases z), w3, ne_of w1 t1 (fun z => by cases z)⟩
  · obtain ⟨z1, l', bs', z2, z3, z4, z5⟩ := z
    refine ⟨z1, l', bs', z2, z3, e.ev _ _ z4 ?_, Nms.evs e z5⟩
    simp only [List.mem_cons, List.not_mem_nil, or_false, not_or]
    exact ⟨fun z => nl _ (z ▸ z4), ne_of z4 p1 (fun z => by cases z), ne_of z4 r1 (fun z => by cases z), ne_of z4 s1 (fun z => by cases z), z3⟩
  · have := putK_le q3 (Sum.inr c.nm.2) (V.ref ow)
    rw [List.length_append, List.length_singleton]
    omega
  · rw [lastOf_snoc, valV_put]
    by_cases h : c.nm.2 = br
    · rw [if_pos h, if_pos (by rw [h])]
      exact .inr ⟨_, ow, rfl, rfl, ho⟩
    · rw [if_neg h, if_neg (fun z => h (Sum.inr.inj z).symm)]
      rcases s3 br with z | ⟨n, b, z1, z2, z3⟩
      · exact .inl z
      · exact .inr ⟨n, b, z1, z2, z3.evs e⟩
  · obtain ⟨bs, h1, h2⟩ := k4
    exact ⟨bs, h1, by rw [List.length_append]; exact h2⟩
theorem Evs.skip {S : List Addr} {p : Addr} {H H1 H2 : Hp} (a : Evs S H H1) (b : Evs [p] H1 H2) (n : H p = none) : Evs S H H2 :=
  ⟨fun c o e nc => b.ev c o (a.ev c o e nc) (by rw [List.mem_singleton]; exact ne_of_none e n), fun c xs e => b.tp c xs (a.tp c xs e), fun c o u e => b.fz c o u (a.fz c o u e), fun c e => a.th c (b.th c e)⟩
theorem aways {K : PySem.W.Frag} {a : Wa} {cs : List Ch} {H : Hp} {p : Addr} (w : Wd K a cs H) (n : H p = none) : p ≠ a.W ∧ p ≠ a.A1 ∧ p ≠ a.A2 ∧ p ≠ a.A3 ∧ p ≠ a.A4 := by
  obtain ⟨_, w1, _⟩ := w.w
  obtain ⟨_, p1, _⟩ := w.c1
  obtain ⟨_, p2, _⟩ := w.c2
  obtain ⟨_, p3, _⟩ := w.c3
  obtain ⟨_, p4, _⟩ := w.c4
  exact ⟨(ne_of_none w1 n).symm, (ne_of_none p1 n).symm, (ne_of_none p2 n).symm, (ne_of_none p3 n).symm, (ne_of_none p4 n).symm⟩
theorem names_sub {cs : List Ch} {c : Ch} : ∀ n ∈ names cs, n ∈ names (cs ++ [c]) := fun n hn => by
  show n ∈ (cs ++ [c]).map (·.nm)
  rw [List.map_append]
  exact List.mem_append_left _ hn
theorem kn_nodup {ws : List Str} {cs : List Ch} (w : Wr ws cs) : ∀ c ∈ cs, c.kn.Nodup := by
  induction w with
  | nil => intro c hc; cases hc
  | snoc w s ih =>
    intro c hc
    rcases List.mem_append.mp hc with h | h
    · exact ih c h
    · obtain ⟨br, hand, gs, deed, _, _, _, _, e, _⟩ := s.ex
      rw [List.mem_singleton.mp h, e]
      exact (srt_perm _).nodup_iff.mpr (gather_nodup _)
theorem kn_len {ws : List Str} {cs : List Ch} {m : Nat} (w : Wr ws cs) (h : cs.length ≤ m) : ∀ c ∈ cs, c.kn.length ≤ m := fun c hc => by
  have := nodup_len (kn_nodup w c hc) (m := names cs) (kn_sub w c hc)
  rw [List.length_map] at this
  omega
theorem gather_snoc (l : List Nm) (n : Nm) : gather (l ++ [n]) = ins (gather l) n := by unfold gather; rw [List.foldl_append]; rfl
theorem byC {Fa R : Hp → Prop} {G : Prop} (main : (∀ Hc, Fa Hc → R Hc) → G) (rest : ∀ Hc, Fa Hc → R Hc) : G := main rest
theorem byC2 {Fa R : Addr → Hp → Prop} {G : Prop} (main : (∀ p Hc, Fa p Hc → R p Hc) → G) (rest : ∀ p Hc, Fa p Hc → R p Hc) : G := main rest
end Mw

namespace Mw
open PySem PySem.Spec PyProof.Rows L2
/-! ### tuple(.. for x in a tuple ..) -/
theorem tg_tup {K : PySem.W.Frag} {a : Addr} {xs : List V} {g : TG} {tt : TT} {te : TE} {vs : List Nat} {σ : L2.St} {H : Hp} {En : List V → Hp → Prop} (Pv : Nat → List V → Hp → Prop) (h0 : Pv 0 [] H) (hl : ∀ i ys H, i ≤ xs.length → Pv i ys H → SqT K H a xs)
    (hs : ∀ i x ys H, xs[i]? = some x → Pv i ys H → g x (wipe σ vs) H fun σ2 H2 => wipe σ2 vs = wipe σ vs ∧ tt σ2 H2 fun b H3 =>
      if b = true then te σ2 H3 fun y H4 => (stpL ys y = none ∧ False) ∨ ∃ a', stpL ys y = some a' ∧ Pv (i + 1) a' H4 else Pv (i + 1) ys H3) (hd : ∀ ys H, Pv xs.length ys H → En ys H) :
    ∃ W : Nat → Nat → List V → Hp → Prop, (∃ m, W 0 m [] H) ∧ turns (Itt K a) g tt te vs stpL (fun _ _ _ => False) En σ W := by
  refine ⟨fun i m ys H => i + m = xs.length ∧ Pv i ys H, ⟨xs.length, by omega, h0⟩, fun i m ys H w => ?_⟩
  obtain ⟨e, pv⟩ := w
  have sq := hl i ys H (by omega) pv
  by_cases hi : i < xs.length
  · refine .inr ⟨⟨xs, xs[i], sq, List.getElem?_eq_getElem hi⟩, fun a' H' => Pv (i + 1) a' H', fun a' H' n => ⟨m - 1, by omega, by omega, n⟩, fun x H' y => ?_⟩
    obtain ⟨rfl, y⟩ := y
    exact hs i x ys _ (y xs sq) pv
  · have e2 : i = xs.length := by omega
    subst e2
    exact .inl ⟨⟨xs, sq, Nat.le_refl _⟩, hd ys H pv⟩
/-! ### zip of two lists -/
theorem for_zipM {K : PySem.W.Frag} {a b : Addr} {xs ys : List V} {g : TG} {tb : TS} {D : Ends} {σ : L2.St} {H : Hp} (Pv : Nat → L2.St → Hp → Prop) (h0 : Pv 0 σ H) (hq : ∀ i σ H, Pv i σ H → SqL K H a xs ∧ SqL K H b ys)
    (hs : ∀ (i : Nat) (x y : V) (T : Addr) (σ : L2.St) (H : Hp), xs[i]? = some x → ys[i]? = some y → Pv i σ H → H T = none → g (.ref T) σ (upd H T (.tup [x, y])) fun σ2 H2 => tb { D with nx := Pv (i + 1), ct := Pv (i + 1), bk := D.nx } σ2 H2)
    (hd : ∀ i σ H, Pv i σ H → (xs.length ≤ i ∨ ys.length ≤ i) → D.nx σ H) :
    ∃ W : Nat → Nat → L2.St → Hp → Prop, (∃ m, W 0 m σ H) ∧ ∀ i m σ H, W i m σ H →
      ((Itz K a b).stop i H ∧ D.nx σ H) ∨ ((Itz K a b).go i H ∧ ∃ N : L2.St → Hp → Prop, (∀ σ' H', N σ' H' → ∃ m', m' < m ∧ W (i + 1) m' σ' H') ∧ ∀ v H', (Itz K a b).yld i H v H' → g v σ H' fun σ2 H2 => tb { D with nx := N, ct := N, bk := D.nx } σ2 H2) := by
  refine ⟨fun i m σ H => xs.length ≤ i + m ∧ Pv i σ H, ⟨xs.length, by omega, h0⟩, ?_⟩
  rintro i m σ H ⟨hm, p⟩
  obtain ⟨qx, qy⟩ := hq i σ H p
  by_cases hlt : i < xs.length ∧ i < ys.length
  · refine .inr ⟨⟨xs, ys, _, _, qx, qy, List.getElem?_eq_getElem hlt.1, List.getElem?_eq_getElem hlt.2⟩, Pv (i + 1), fun σ' H' p' => ⟨m - 1, by omega, by omega, p'⟩, fun v H' y => ?_⟩
    obtain ⟨T, x', y', rfl, hT, rfl, f1, f2⟩ := y
    exact hs i x' y' T σ H (f1 xs qx) (f2 ys qy) p hT
  · have hend : xs.length ≤ i ∨ ys.length ≤ i := by omega
    exact .inl ⟨⟨xs, ys, qx, qy, hend⟩, hd i σ H p hend⟩
/-! ### the order of names -/
def lexLe : List Nat → List Nat → Bool
  | [], _ => true
  | _ :: _, [] => false
  | a :: l, b :: m => if a = b then lexLe l m else decide (a < b)
theorem lexLe_eq : ∀ l m : List Nat, lexLe l m = !decide (m < l)
  | [], m => by simp [lexLe]
  | a :: l, [] => by simp [lexLe]
  | a :: l, b :: m => by
    unfold lexLe
    by_cases h : a = b
    · subst h
      rw [if_pos rfl, lexLe_eq l m]
      congr 1
      rw [decide_eq_decide, List.cons_lt_cons_iff]
      constructor
      · exact fun z => .inr ⟨rfl, z⟩
      · rintro (z | ⟨_, z⟩)
        · exact absurd z (Nat.lt_irrefl _)
        · exact z
    · rw [if_neg h]
      by_cases h2 : a < b
      · rw [decide_eq_true h2]
        have : ¬ (b :: m < a :: l) := by
          rw [List.cons_lt_cons_iff]
          rintro (z | ⟨z, _⟩) <;> omega
        rw [decide_eq_false this]
        rfl
      · rw [decide_eq_false h2]
        have : b :: m < a :: l := by
          rw [List.cons_lt_cons_iff]
          exact .inl (by omega)
        rw [decide_eq_true this]
        rfl
def leN (m n : Nm) : Bool := !PySem.W.dataLt (nmD n) (nmD m)
theorem leN_eq (m n : Nm) : leN m n = if m.1 = n.1 then lexLe m.2.cps.toList n.2.cps.toList else decide (m.1 < n.1) := by
  unfold leN nmD
  rw [PySem.W.dataLt_pair (by simp [PySem.W.alike]) (by simp [PySem.W.alike]), PySem.W.dataLt_int, PySem.W.dataLt_str, lexLe_eq]
  have e1 : PyData.eqv (.int n.1) (.int m.1) = decide (n.1 = m.1) := by simp [PyData.eqv]; rfl
  have e2 : PyData.eqv (.str n.2) (.str m.2) = decide (n.2 = m.2) := by simp [PyData.eqv]; rfl
  rw [e1, e2]
  by_cases h : m.1 = n.1
  · rw [if_pos h, if_pos (decide_eq_true h.symm)]
    by_cases h2 : n.2 = m.2
    · rw [if_pos (decide_eq_true h2), h2, decide_eq_false (List.lt_irrefl _)]
    · rw [if_neg (by simpa using h2)]
  · rw [if_neg h, if_neg (by simpa using fun z => h z.symm)]
    by_cases h2 : n.1 < m.1
    · rw [decide_eq_true h2, decide_eq_false (by omega)]; rfl
    · rw [decide_eq_false h2, decide_eq_true (by omega)]; rfl
theorem lexLe_drop {l m : List Nat} {i : Nat} {x y : Nat} (hx : l[i]? = some x) (hy : m[i]? = some y) : lexLe (l.drop i) (m.drop i) = if x = y then lexLe (l.drop (i + 1)) (m.drop (i + 1)) else decide (x < y) := by
  obtain ⟨h1, h2⟩ := List.getElem?_eq_some_iff.mp hx
  obtain ⟨h3, h4⟩ := List.getElem?_eq_some_iff.mp hy
  rw [List.drop_eq_getElem_cons h1, List.drop_eq_getElem_cons h3, h2, h4]
  rfl
theorem lexLe_end {l m : List Nat} {i : Nat} (h : l.length ≤ i ∨ m.length ≤ i) (hi : i ≤ l.length ∧ i ≤ m.length) : lexLe (l.drop i) (m.drop i) = decide (l.length ≤ m.length) := by
  by_cases h1 : l.length ≤ i
  · rw [List.drop_eq_nil_of_le h1, decide_eq_true (by omega)]
    rfl
  · have hm : m.length ≤ i := by omega
    have hlt : i < l.length := by omega
    rw [List.drop_eq_nil_of_le hm, List.drop_eq_getElem_cons hlt, decide_eq_false (by omega)]
    rfl
/-! ### tables -/
theorem Grw.evs {T : List Addr} {H H' : Hp} (t : Tb T H) (g : Grw T H H') : Evs T H H' := by
  have nt : ∀ b o, H b = some o → (∀ ps, o ≠ .tbl ps) → b ∉ T := fun b o e h hb => by
    obtain ⟨ps, h1, _⟩ := t b hb
    rw [h1] at e
    cases e
    exact h ps rfl
  exact ⟨fun b o e nb => by rw [g.2 b nb]; exact e, fun b xs e => by rw [g.2 b (nt b _ e fun ps z => by cases z)]; exact e, fun b ob u e => by rw [g.2 b (nt b _ e fun ps z => by cases z)]; exact e, fun b e => g.none e⟩
theorem Tb.evs {S T : List Addr} {H H' : Hp} (t : Tb T H) (e : Evs S H H') (h : ∀ p ∈ T, p ∉ S) : Tb T H' := fun p hp => by
  obtain ⟨ps, h1, h2⟩ := t p hp
  exact ⟨ps, e.ev _ _ h1 (h p hp), h2⟩
theorem dp_nm {K : PySem.W.Frag} {H : Hp} {v : V} {n : Nm} (h : Dp K H v (nmD n)) : ∃ q, v = .ref q ∧ SqT K H q (nmV n) := by
  unfold nmD at h
  cases h with
  | tup hs ha =>
    cases ha with
    | cons h0 ha =>
      cases ha with
      | cons h1 ha =>
        cases ha
        cases h0
        cases h1
        exact ⟨_, rfl, hs⟩
theorem dpAll_at {K : PySem.W.Frag} {H : Hp} : ∀ {vs : List V} {ds : List PyData} {i : Nat} {v : V}, DpAll K H vs ds → vs[i]? = some v → ∃ d, ds[i]? = some d ∧ Dp K H v d
  | _, _, i, v, .nil, h => by simp at h
  | _, _, 0, v, .cons h t, e => by simp at e; subst e; exact ⟨_, by simp, h⟩
  | _, _, i + 1, v, .cons h t, e => by
    obtain ⟨d, h1, h2⟩ := dpAll_at t (i := i) (by simpa using e)
    exact ⟨d, by simpa using h1, h2⟩
end Mw

namespace Mw
open PySem PySem.Spec PyProof.Rows L2
/-! ### ledgers can be shown -/
structure NmOk (n : Nm) : Prop where
  wrd : Wrd n.2
  lo : 0 ≤ n.1
  hi : n.1 ≤ 100
def DeedSm : Deed → Prop
  | .join => True
  | .hang _ l => Ltr l
  | .answer n l => NmOk n ∧ Ltr l
  | .put l => Ltr l
structure ChOk (c : Ch) : Prop where
  nm : NmOk c.nm
  hand : Wrd c.hand
  base : ∀ n ∈ c.base, NmOk n
  bl : c.base.length ≤ 17
  deed : DeedSm c.deed
theorem maxZ_le {B : Int} (hB : 0 ≤ B) : ∀ {l : List Int}, (∀ x ∈ l, 0 ≤ x ∧ x ≤ B) → 0 ≤ maxZ 0 l ∧ maxZ 0 l ≤ B
  | [], _ => ⟨Int.le_refl _, hB⟩
  | n :: r, h => by
    have fold : ∀ (r : List Int) (a : Int), 0 ≤ a → a ≤ B → (∀ x ∈ r, 0 ≤ x ∧ x ≤ B) → 0 ≤ r.foldl max a ∧ r.foldl max a ≤ B := by
      intro r
      induction r with
      | nil => intro a h0 h1 _; exact ⟨h0, h1⟩
      | cons m r ih =>
        intro a h0 h1 hr
        rw [List.foldl_cons]
        have hm := hr m (by simp)
        exact ih (max a m) (by omega) (by omega) fun x hx => hr x (List.mem_cons_of_mem _ hx)
    have hn := h n (by simp)
    exact fold r n hn.1 hn.2 fun x hx => h x (List.mem_cons_of_mem _ hx)
theorem cnt_le {ws : List Str} {cs : List Ch} (w : Wr ws cs) : ∀ n ∈ names cs, 0 ≤ n.1 ∧ n.1 ≤ (cs.length : Int) := by
  induction w with
  | nil => intro n hn; cases hn
  | snoc w s ih =>
    rename_i cs c0
    intro n hn
    have hn' : n ∈ (cs ++ [c0]).map (·.nm) := hn
    rw [List.map_append] at hn'
    rw [List.length_append, List.length_singleton]
    rcases List.mem_append.mp hn' with h | h
    · have := ih n h
      omega
    · obtain ⟨br, hand, gs, deed, _, _, hg, _, e, _⟩ := s.ex
      rw [List.mem_singleton.mp h, e]
      have hb := maxZ_le (B := (cs.length : Int)) (by omega) (l := (srt (want cs gs)).map (·.1)) fun x hx => by
        obtain ⟨m, hm, rfl⟩ := List.mem_map.mp hx
        exact ih m (want_sub w hg (mem_srt.mp hm))
      show 0 ≤ 1 + maxZ 0 ((srt (want cs gs)).map (·.1)) ∧ 1 + maxZ 0 ((srt (want cs gs)).map (·.1)) ≤ _
      omega
theorem nm_ok {ws : List Str} {cs : List Ch} (w : Wr ws cs) (ww : ∀ z ∈ ws, Wrd z) (h : cs.length ≤ 17) : ∀ n ∈ names cs, NmOk n := fun n hn => by
  have := cnt_le w n hn
  exact ⟨ww _ (br_in w n hn), this.1, by omega⟩
theorem ch_ok {ws : List Str} {cs : List Ch} (w : Wr ws cs) (ww : ∀ z ∈ ws, Wrd z) : cs.length ≤ 17 → ∀ c ∈ cs, ChOk c := by
  induction w with
  | nil => intro _ c hc; cases hc
  | snoc w s ih =>
    rename_i cs c0
    intro hl c hc
    have hl' : cs.length ≤ 17 := by rw [List.length_append] at hl; omega
    rcases List.mem_append.mp hc with h | h
    · exact ih hl' c h
    · have e := List.mem_singleton.mp h
      have nmc : NmOk c.nm := nm_ok (.snoc w s) ww hl c.nm (List.mem_map.mpr ⟨c, hc, rfl⟩)
      obtain ⟨br, hand, gs, deed, _, hh, hg, _, e2, dk⟩ := s.ex
      rw [e] at nmc ⊢
      have kin : ∀ n ∈ c0.kn, NmOk n := fun n hn => by
        rw [e2] at hn
        exact nm_ok w ww hl' n (want_sub w hg (mem_srt.mp hn))
      have bs : ∀ n ∈ c0.base, n ∈ c0.kn := fun n hn => by
        rw [e2] at hn ⊢
        exact (List.mem_filter.mp hn).1
      have kl : c0.base.length ≤ 17 := by
        rw [e2]
        have h1 : ((srt (want cs gs)).filter fun n => !decide (n ∈ below cs (srt (want cs gs)))).length ≤ (srt (want cs gs)).length := List.length_filter_le ..
        rw [srt_len] at h1
        have h2 := want_len w hg
        show ((srt (want cs gs)).filter fun n => !decide (n ∈ below cs (srt (want cs gs)))).length ≤ 17
        omega
      refine ⟨nmc, by rw [e2]; exact ww _ hh, fun n hn => kin n (bs n hn), kl, ?_⟩
      have ed : c0.deed = deed := by rw [e2]; rfl
      rw [ed]
      cases deed with
      | join => trivial
      | hang wi l => exact dk.1
      | answer n l => exact ⟨kin n dk.2.1, dk.1⟩
      | put l => exact dk
theorem fine_str {z : Str} {n : Nat} (a : Asc n z) : fine (.str z) = true ∧ wt (.str z) ≤ 10 * n + 2 := by
  refine ⟨?_, ?_⟩
  · simp only [fine]
    rw [List.all_eq_true]
    exact fun c hc => decide_eq_true (a.2 c hc)
  · simp only [wt]
    have := a.1
    omega
theorem Wrd.asc {z : Str} (w : Wrd z) : Asc 8 z := ⟨w.most, fun c hc => by have := w.low c hc; omega⟩
theorem Ltr.asc {z : Str} (w : Ltr z) : Asc 5 z := ⟨w.most, fun c hc => by have := w.low c hc; omega⟩
theorem log2_le100 {i : Int} (h0 : 0 ≤ i) (h : i ≤ 100) : i.natAbs.log2 < 1920 := by
  have h2 : i.natAbs < 2 ^ 1000 := Nat.lt_of_lt_of_le (show i.natAbs < 1000 by omega) (by decide +kernel)
  exact Nat.lt_of_lt_of_le (PySem.Flt.log2_lt_of (by decide) h2) (by decide)
theorem fine_nm {n : Nm} (h : NmOk n) : fine (nmD n) = true ∧ wt (nmD n) ≤ 2010 ∧ (nmD n).depth = 1 := by
  obtain ⟨f1, f2⟩ := fine_str h.wrd.asc
  have f3 : fine (.int n.1) = true := by simpa [fine] using log2_le100 h.lo h.hi
  refine ⟨by simp only [nmD, fine, fineAll] at *; simp [f1, f3], ?_, by simp [nmD, PyData.depth, PyData.depthAll]⟩
  simp only [nmD, wt, wtAll] at *
  omega
theorem fine_nms : ∀ {l : List Nm}, (∀ n ∈ l, NmOk n) → fineAll (l.map nmD) = true ∧ wtAll (l.map nmD) ≤ 2012 * l.length ∧ PyData.depthAll (l.map nmD) ≤ 1
  | [], _ => ⟨rfl, by simp [wtAll], by simp [PyData.depthAll]⟩
  | n :: r, h => by
    obtain ⟨a, b, c⟩ := fine_nm (h n (by simp))
    obtain ⟨a2, b2, c2⟩ := fine_nms (l := r) fun m hm => h m (List.mem_cons_of_mem _ hm)
    refine ⟨by simp only [List.map_cons, fineAll, a, a2, Bool.and_self], ?_, ?_⟩
    · simp only [List.map_cons, wtAll, List.length_cons]
      omega
    · simp only [List.map_cons, PyData.depthAll, c]
      omega
theorem fine_deed {d : Deed} (h : DeedSm d) : fine (deedD d) = true ∧ wt (deedD d) ≤ 4200 ∧ (deedD d).depth ≤ 2 := by
  have f0 : fine (.int 0) = true := by decide +kernel
  have f1 : fine (.int 1) = true := by decide +kernel
  cases d with
  | join =>
    exact ⟨by decide +kernel, by decide +kernel, by decide +kernel⟩
  | hang wi l =>
    obtain ⟨a, b⟩ := fine_str (Ltr.asc h)
    have k : fine (.str (Str.ofString "hang")) = true ∧ wt (.str (Str.ofString "hang")) ≤ 42 := by decide +kernel
    have k2 : fine (.str (Str.ofString (if wi then "wide" else "shut"))) = true ∧ wt (.str (Str.ofString (if wi then "wide" else "shut"))) ≤ 42 := by cases wi <;> decide +kernel
    refine ⟨?_, ?_, ?_⟩
    · have e : fine (deedD (.hang wi l)) = (fine (.str (Str.ofString "hang")) && (fine (.int 0) && (fine (.int 1) && (fine (.str (Str.ofString (if wi then "wide" else "shut"))) && (fine (.str l) && true))))) := by simp only [deedD, restD, kindS, fine, fineAll]
      rw [e, a, k.1, k2.1, f0, f1]
      rfl
    · simp only [deedD, restD, kindS, wt, wtAll] at *
      omega
    · simp [deedD, restD, PyData.depth, PyData.depthAll]
  | answer n l =>
    obtain ⟨a, b⟩ := fine_str (Ltr.asc h.2)
    obtain ⟨c, d, e⟩ := fine_nm h.1
    have k : fine (.str (Str.ofString "answer")) = true ∧ wt (.str (Str.ofString "answer")) ≤ 62 := by decide +kernel
    refine ⟨?_, ?_, ?_⟩
    · simp only [deedD, restD, kindS] at *
      simp only [fine, fineAll] at *
      simp [a, k.1, c]
    · simp only [deedD, restD, kindS]
      have : wt (.tuple [.str (Str.ofString "answer"), nmD n, .str l]) = wt (.str (Str.ofString "answer")) + 2 + (wt (nmD n) + 2 + (wt (.str l) + 2 + 0)) + 3 := by simp only [wt, wtAll]
      rw [this]
      omega
    · simp only [deedD, restD, PyData.depth, PyData.depthAll, e]
      decide
  | put l =>
    obtain ⟨a, b⟩ := fine_str (Ltr.asc h)
    have k : fine (.str (Str.ofString "put")) = true ∧ wt (.str (Str.ofString "put")) ≤ 42 := by decide +kernel
    refine ⟨?_, ?_, ?_⟩
    · simp only [deedD, restD, kindS, fine, fineAll] at *
      simp [a, k.1, f0]
    · simp only [deedD, restD, kindS, wt, wtAll] at *
      omega
    · simp [deedD, restD, PyData.depth, PyData.depthAll]
theorem fine_ch {c : Ch} (h : ChOk c) : fine (chD c) = true ∧ wt (chD c) ≤ 41000 ∧ (chD c).depth ≤ 3 := by
  obtain ⟨a1, a2, a3⟩ := fine_nm h.nm
  obtain ⟨b1, b2⟩ := fine_str h.hand.asc
  obtain ⟨c1, c2, c3⟩ := fine_nms h.base
  obtain ⟨d1, d2, d3⟩ := fine_deed h.deed
  have hb := h.bl
  have e1 : fine (chD c) = (fine (nmD c.nm) && (fine (.str c.hand) && (fineAll (c.base.map nmD) && (fine (deedD c.deed) && true)))) := by simp only [chD, fine, fineAll]
  have e2 : wt (chD c) = wt (nmD c.nm) + 2 + (wt (.str c.hand) + 2 + ((wtAll (c.base.map nmD) + 3) + 2 + (wt (deedD c.deed) + 2 + 0))) + 3 := by simp only [chD, wt, wtAll]
  refine ⟨by rw [e1, a1, b1, c1, d1]; rfl, by rw [e2]; omega, ?_⟩
  simp only [chD, PyData.depth, PyData.depthAll, a3]
  omega
theorem fine_chs : ∀ {L : List Ch}, (∀ c ∈ L, ChOk c) → fineAll (L.map chD) = true ∧ wtAll (L.map chD) ≤ 41002 * L.length ∧ PyData.depthAll (L.map chD) ≤ 3
  | [], _ => ⟨rfl, by simp [wtAll], by simp [PyData.depthAll]⟩
  | c :: r, h => by
    obtain ⟨a, b, d⟩ := fine_ch (h c (by simp))
    obtain ⟨a2, b2, d2⟩ := fine_chs (L := r) fun m hm => h m (List.mem_cons_of_mem _ hm)
    refine ⟨by simp only [List.map_cons, fineAll, a, a2, Bool.and_self], ?_, ?_⟩
    · simp only [List.map_cons, wtAll, List.length_cons]
      omega
    · simp only [List.map_cons, PyData.depthAll]
      omega
abbrev ledD (L : List Ch) : PyData := .tuple (L.map chD)
theorem led_rp {K : PySem.W.Frag} {H : Hp} {x : V} {L : List Ch} (h : ∀ c ∈ L, ChOk c) (hl : L.length ≤ 17) (d : Dp K H x (ledD L)) : Dp K H x (ledD L) ∧ (ledD L).showable = true ∧ (ledD L).canLay0 = true ∧ (ledD L).depth ≤ 32 ∧ (ledD L).shown.length ≤ 16000000 := by
  obtain ⟨a, b, c⟩ := fine_chs h
  have hf : fine (ledD L) = true := by simp only [fine]; exact a
  obtain ⟨s1, s2, s3⟩ := fine_show hf
  refine ⟨d, s1, s2, by simp only [PyData.depth]; omega, Nat.le_trans s3 ?_⟩
  simp only [wt]
  have : 41002 * L.length ≤ 41002 * 17 := Nat.mul_le_mul_left _ hl
  omega
end Mw

namespace Mw
open PySem PySem.Spec PyProof.Rows L2
/-! ### {k: v for x in ..}, keys tuples -/
theorem setT {X : Cx} {pins : List (Addr × Obj)} {σ : L2.St} {H : Hp} {s : Shared} {E : Value → Shared → Prop} {D b : Addr} {kvs : List (List Key × V)} {k : List Key} {v : V} {r : Value} {Q : Unit → Shared → Prop} (hu : X.A.units + 1 < cLine) (I : Inv X pins σ H s)
    (hD : H D = some (.dT kvs)) (hb : H b = some (.tup (k.map kV))) (hz : kvs.length < sizeLine) (rv : RelV v r) (h : ∀ s', Inv X pins σ (upd H D (.dT (putK kvs k v))) s' → Q () s') : wpAny (model X.prog X.w) X.A (dictSet D (.ref b) r) Q E s := by
  obtain ⟨z, hd, xs, rel, dd⟩ := dt_of I.hok hD
  have hl : (putK kvs k v).length ≤ sizeLine := by
    have : (putK kvs k v).length ≤ kvs.length + 1 := by
      unfold putK
      split
      · rw [List.length_map]; omega
      · rw [List.length_append]; exact Nat.le_refl _
    omega
  have room : (tupleKind (mixKind X.prog X.w)).room X.A := by
    first
      | exact tupleKind_room hu
      | exact tupleKind_room (Nat.lt_of_succ_lt hu)
      | (show X.A.units < cLine; omega)
      | (show X.A.units + 1 < cLine; omega)
  refine wpAny_dictSet_heap (hsz := by rw [← Paired.length rel]; exact z) room (key_of I.hok hb) dd fun h' dd' hs => h _ ?_
  obtain ⟨q, es, ep, hq, h2, h3, h4, _, h5⟩ := dd'
  refine d_write I (by rw [hD]; exact True.intro) hs ⟨q, hq⟩ ⟨hl, hd, _, (rel.put k hb rv).keeps fun c ys ec => ?_, q, es, ep, hq, h2, h3, h4, h5⟩
  rw [upd_ne (ne_of ec hD (fun z => nomatch z))]
  exact ec
/-- what its turns ask: D is the new dict -/
def tDcT (wi : TI) (g : TG) (tt : TT) (tk tv : TE) (vs : List Nat) : TE := fun σ H Q => wi σ H fun J H1 => ∀ D, H1 D = none → ∃ W : Nat → Nat → Hp → Prop, (∃ m, W 0 m (upd H1 D (.dT []))) ∧ ∀ i m H, W i m H →
  (J.stop i H ∧ Q (.ref D) H) ∨ (J.go i H ∧ ∃ Nx : Hp → Prop, (∀ H', Nx H' → ∃ m', m' < m ∧ W (i + 1) m' H') ∧ ∀ x H', J.yld i H x H' → g x (wipe σ vs) H' fun σ2 H2 => wipe σ2 vs = wipe σ vs ∧ tt σ2 H2 fun b H3 =>
    if b = true then tk σ2 H3 fun y H4 => tv σ2 H4 fun z H5 => ∃ kvs k b, y = .ref b ∧ H5 b = some (.tup (k.map kV)) ∧ H5 D = some (.dT kvs) ∧ kvs.length < sizeLine ∧ Nx (upd H5 D (.dT (putK kvs k z))) else Nx H3)
section
variable {X : Cx} {kx vx tg iter : Expr} {ifs : List Expr} {scope : Scope} {own : List (Str × Nat)} {pos : Pos} {wi : TI} {g : TG} {tt : TT} {tk tv : TE}
theorem pe_dcT (hu : X.A.units + 1 < cLine) (hc : X.calm = true) (hN : X.N.Nodup) (hi : PI X tg iter wi) (ok : BlkOk X.N X.env.scope scope own)
    (hg : ∀ (s : Shared) (H : Hp) (C : Addr) (cl : List (Str × Addr)) (fp : List Addr), PG (X.blk s H scope (compEnvC scope cl C X.env) fp) tg g) (ht : ∀ (s : Shared) (H : Hp) (C : Addr) (cl : List (Str × Addr)) (fp : List Addr), PTs (X.blk s H scope (compEnvC scope cl C X.env) fp) ifs tt)
    (hk : ∀ (s : Shared) (H : Hp) (C : Addr) (cl : List (Str × Addr)) (fp : List Addr), PE (X.blk s H scope (compEnvC scope cl C X.env) fp) kx tk)
    (hv : ∀ (s : Shared) (H : Hp) (C : Addr) (cl : List (Str × Addr)) (fp : List Addr), PE (X.blk s H scope (compEnvC scope cl C X.env) fp) vx tv) (hs : ∀ x, foldedSetIterable iter X.env x = pure x := by intro _; rfl) :
    PE X (.DictComp kx vx [⟨tg, iter, ifs, 0⟩] scope pos) (tDcT wi g tt tk tv (own.map (·.2))) := by
  refine ⟨fun pins s σ H Q I h => ?_⟩
  rw [arm_eval_DictComp]
  have frees : ∀ y ∈ scope.names, y.2 = .free → ∃ c, X.env.cells.lookup y.1 = some c := fun y hy e => (ok.free y hy e).elim (fun k => I.ok.has _ (.inl k)) fun k => I.ok.has _ (.inr k)
  refine wpAny_comprehension_free rfl hs (closure_ok frees) ok.kind (fun y hy e => by rw [ok.uniq y hy, e]) (thn (hi.run pins s σ H _ I h) fun _ _ hx => thn hx fun _ s2 ⟨it, fp, tn, J, H2, e, I2, T, st2, f2, q⟩ => ?_)
  subst e
  refine wpAny_newObj_type (newEnv_comp ?_)
  obtain ⟨D, hD⟩ : ∃ D, D = s2.heap.objs.size := ⟨_, rfl⟩
  obtain ⟨W, ⟨m0, w0⟩, turn⟩ := q D (I2.hok.fresh (Nat.le_of_eq hD.symm))
  obtain ⟨s3, hs3⟩ : ∃ s3 : Shared, s3 = { s2 with heap := s2.heap.push { cls := .type "dict", data := .dict #[] } } := ⟨_, rfl⟩
  obtain ⟨H3, hH3⟩ : ∃ H3, H3 = upd H2 D (.dT []) := ⟨_, rfl⟩
  rw [← hH3] at w0
  have keep3 : ∀ b o, s2.heap.get? b = some o → s3.heap.get? b = some o := fun b o e => by rw [hs3]; exact Heap.get?_push_of_some _ e
  have I3 : Inv X pins σ H3 s3 := by
    rw [hs3, hH3, hD]
    exact I2.laid (t' := s2.toks) (fun b o e => Heap.get?_push_of_some _ e) (Nat.le_refl _) (dt_empty s2.heap I2.big)
  have f3 : ∀ b ∈ fp, FpOk X pins H3 b ∧ b < s3.heap.objs.size := fun b hb => by
    obtain ⟨o, e, _⟩ := T.obj _ _ st2 b hb
    have hlt := Heap.lt_size e
    refine ⟨⟨?_, (f2 b hb).2⟩, Heap.lt_size (keep3 b o e)⟩
    rw [hH3, upd_ne (by rw [hD]; exact Nat.ne_of_lt hlt)]
    exact (f2 b hb).1
  have I4 := block_start I3 ok hN f3
  have st3 : tn 0 s3.heap := T.keep _ _ _ st2 fun b _ o e => keep3 b o e
  obtain ⟨cl, hcl⟩ : ∃ cl, cl = cellsFrom (s3.heap.objs.size + 1) scope.names (cloFrom X.env.cells scope.names []) := ⟨_, rfl⟩
  have pg := hg s3 H3 s3.heap.objs.size cl fp
  have pt := ht s3 H3 s3.heap.objs.size cl fp
  have pk := hk s3 H3 s3.heap.objs.size cl fp
  have pv := hv s3 H3 s3.heap.objs.size cl fp
  have nfp : ∀ b ∈ fp, H3 b = none := fun b hb => (f3 b hb).1.1
  rw [← hcl] at I4
  obtain ⟨ce, hce⟩ : ∃ ce, ce = compEnvC scope cl s3.heap.objs.size X.env := ⟨_, rfl⟩
  obtain ⟨s4, hs4⟩ : ∃ s4 : Shared, s4 = { s3 with heap := pushCells (s3.heap.push { cls := .type "dict", data := .dict #[] }) scope.names } := ⟨_, rfl⟩
  rw [← hce] at I4 pg pt pk pv
  rw [← hs4] at I4
  have cL : ce.locals = s3.heap.objs.size := by rw [hce]; rfl
  suffices goal' : codeAny (model X.prog X.w) X.A (.compStart (.DictComp kx vx [⟨tg, iter, ifs, 0⟩] scope pos) 0 (.ref it) (.ref D) ce) (compPost (model X.prog X.w) X.A X.xe none (EP X pins σ Q) (.ref D) s3.heap.objs.size) s4 by
    rw [hce, hcl, hs4, hs3, hD] at goal'
    exact goal'
  have st4 : tn 0 s4.heap := T.keep _ _ _ st3 fun b _ o e => by rw [hs4]; exact pushCells_keeps _ _ _ _ (Heap.get?_push_of_some _ e)
  let Y := X.blk s3 H3 scope ce fp
  have own_ok : ∀ {σ' : L2.St} {H' : Hp} {s' : Shared}, Inv Y [] σ' H' s' → (∀ b ∈ fp, H' b = none) → ∀ b ∈ fp, FpOk Y [] H' b := fun {σ' H' s'} I' hn b hb =>
    ⟨hn b hb, (I'.ok.exf b hb).1, I'.ok.exfs b hb, .inl hb, fun x c e => (I'.ok.exf b hb).2 x c e, fun p hp => absurd (show p ∈ ([] : List (Addr × Obj)) ++ [] from hp) (by simp)⟩
  have loop : codeAny (model X.prog X.w) X.A (.compLoop (.DictComp kx vx [⟨tg, iter, ifs, 0⟩] scope pos) 0 (.ref it) (.ref D) ce) (compPost (model X.prog X.w) X.A X.xe none (EP X pins σ Q) (.ref D) s3.heap.objs.size) s4 := by
    refine compLoop_anyD (fun n s' => ∃ i H', Inv Y [] (wipe σ (own.map (·.2))) H' s' ∧ tn i s'.heap ∧ (∀ b ∈ fp, H' b = none) ∧ W i n H') ?_ m0 ⟨0, H3, I4, st4, nfp, w0⟩
    rintro n s5 ⟨i, H5, I5, st5, n5, w5⟩
    rcases turn i n H5 w5 with ⟨stop, qq⟩ | ⟨go, Nx, hNx, step⟩
    · refine thnF (T.done Y rfl rfl rfl hc i [] s5 _ H5 (fun _ _ => False) I5 (own_ok I5 n5) st5 stop) fun r s6 ⟨hr, I6⟩ => ?_
      subst hr
      have I7 : Inv X pins σ H5 s6 := I3.call' (ch := fp) I6.os I6.base I6.hok I6.bare fun b hb => ⟨(f3 b hb).1.2.2.2.1, (f3 b hb).1.2.1, (f3 b hb).1.2.2.2.2.1, (f3 b hb).1.2.2.2.2.2⟩
      have nC : H5 s3.heap.objs.size = none := by rw [← cL]; exact I6.free
      obtain ⟨m, hn, _⟩ := I6.loc
      have hn' : s6.heap.Ns s3.heap.objs.size m := by rw [← cL]; exact hn
      obtain ⟨f0, f1, f2', f3', f4, f5⟩ := I3.fpOk (Nat.le_refl _) nC
      exact ⟨m, hn', fun h'' sb => ⟨.ref D, H5, I7.turned (t' := s6.toks) (fun b o hb e => (sb.2 b hb).trans e) f0 f1 f3' f4 f5, rfl, qq⟩⟩
    · refine thnF (T.item Y rfl rfl rfl hc i [] s5 _ H5 (fun _ _ => False) I5 (own_ok I5 n5) st5 go) fun r s6 ⟨u, hr, h6⟩ => ?_
      subst hr
      refine thnF h6 fun _ s7 ⟨x, H7, I7, r7, y7, st7, n7⟩ => ?_
      have I7' := I7.pinned (own_ok I7 n7) (T.obj _ _ st7)
      refine thnF (pg.run _ s7 _ H7 x u _ I7' r7 (step x H7 y7)) fun _ s8 ⟨σ8, H8, I8, hw8, q8⟩ => ?_
      refine thnF (pt.run _ s8 σ8 H8 _ I8 q8) fun b s9 ⟨H9, I9, q9⟩ => ?_
      have fin : ∀ {s' : Shared} {H' : Hp}, Inv Y ([] ++ pinsAt fp s7.heap) σ8 H' s' → Nx H' → ∃ m, m < n ∧ ∃ i H', Inv Y [] (wipe σ (own.map (·.2))) H' s' ∧ tn i s'.heap ∧ (∀ b ∈ fp, H' b = none) ∧ W i m H' := fun {s' H'} I' nx => by
        obtain ⟨m', hm, w'⟩ := hNx H' nx
        have pin : ∀ b ∈ fp, ∀ o, s7.heap.get? b = some o → s'.heap.get? b = some o ∧ H' b = none := fun b hb o e => by
          have z := I'.pin (b, o) (List.mem_append_right _ (List.mem_append_right _ (mem_pinsAt hb e)))
          exact ⟨z.1, z.2.1⟩
        refine ⟨m', hm, i + 1, H', (I'.unpinned (pins := [])).weak (by rw [← hw8, wipe_length]) (fun j v e => by rw [← hw8] at e; exact (wipe_some e).1), T.keep _ _ _ st7 fun b hb o e => (pin b hb o e).1, fun b hb => ?_, w'⟩
        obtain ⟨o, e, _⟩ := T.obj _ _ st7 b hb
        exact (pin b hb o e).2
      cases b with
      | false =>
        simp only [Bool.false_eq_true, if_false] at q9 ⊢
        exact fin I9 q9
      | true =>
        simp only [if_true] at q9 ⊢
        refine thnF (pk.run _ s9 σ8 H9 _ I9 q9) fun z s10 ⟨yk, H10, I10, r10, q10⟩ => ?_
        refine thnF (pv.run _ s10 σ8 H10 _ I10 q10) fun z2 s11 ⟨yv, H11, I11, r11, kvs, k, kb, ek, hkb, hD11, hz11, nx⟩ => ?_
        subst ek
        obtain rfl : z = Value.ref kb := r10
        exact setT (X := Y) hu I11 hD11 hkb hz11 r11 fun s12 I12 => fin I12 nx
  exact codeAny_compStart_dict loop (T.self X.A 0 _ _ _ st4 loop)
/-- over a tuple that stays -/
theorem dcT_tup {K : PySem.W.Frag} {a : Addr} {xs : List V} {g : TG} {tt : TT} {tk tv : TE} {vs : List Nat} {σ : L2.St} {H1 : Hp} {D : Addr} {Qd : Hp → Prop} (Pv : Nat → Hp → Prop) (h0 : Pv 0 (upd H1 D (.dT []))) (hl : ∀ i H, i ≤ xs.length → Pv i H → SqT K H a xs)
    (hs : ∀ i x H, xs[i]? = some x → Pv i H → g x (wipe σ vs) H fun σ2 H2 => wipe σ2 vs = wipe σ vs ∧ tt σ2 H2 fun b H3 =>
      if b = true then tk σ2 H3 fun y H4 => tv σ2 H4 fun z H5 => ∃ kvs k b, y = .ref b ∧ H5 b = some (.tup (k.map kV)) ∧ H5 D = some (.dT kvs) ∧ kvs.length < sizeLine ∧ Pv (i + 1) (upd H5 D (.dT (putK kvs k z))) else Pv (i + 1) H3) (hd : ∀ H, Pv xs.length H → Qd H) :
    ∃ W : Nat → Nat → Hp → Prop, (∃ m, W 0 m (upd H1 D (.dT []))) ∧ ∀ i m H, W i m H →
      ((Itt K a).stop i H ∧ Qd H) ∨ ((Itt K a).go i H ∧ ∃ Nx : Hp → Prop, (∀ H', Nx H' → ∃ m', m' < m ∧ W (i + 1) m' H') ∧ ∀ x H', (Itt K a).yld i H x H' → g x (wipe σ vs) H' fun σ2 H2 => wipe σ2 vs = wipe σ vs ∧ tt σ2 H2 fun b H3 =>
        if b = true then tk σ2 H3 fun y H4 => tv σ2 H4 fun z H5 => ∃ kvs k b, y = .ref b ∧ H5 b = some (.tup (k.map kV)) ∧ H5 D = some (.dT kvs) ∧ kvs.length < sizeLine ∧ Nx (upd H5 D (.dT (putK kvs k z))) else Nx H3) := by
  refine ⟨fun i m H => i + m = xs.length ∧ Pv i H, ⟨xs.length, by omega, h0⟩, fun i m H ⟨e, pv⟩ => ?_⟩
  have sq := hl i H (by omega) pv
  by_cases hi : i < xs.length
  · refine .inr ⟨⟨xs, xs[i], sq, List.getElem?_eq_getElem hi⟩, Pv (i + 1), fun H' n => ⟨m - 1, by omega, by omega, n⟩, fun x H' y => ?_⟩
    obtain ⟨rfl, y⟩ := y
    exact hs i x _ (y xs sq) pv
  · have e2 : i = xs.length := by omega
    subst e2
    exact .inl ⟨⟨xs, sq, Nat.le_refl _⟩, hd H pv⟩
end
end Mw

namespace Mw
open PySem PySem.Spec PyProof.Rows L2 GenW
/-! ### any(elt for tg in iter if ..) -/
section
variable {X : Cx} {pins : List (Addr × Obj)} {σ : L2.St}
theorem any_loop {P : Program} {w : World} {A : Around} {Y : Cx} (hYP : Y.prog = P) (hYw : Y.w = w) {ga g : Nat} {Rr : Result → Shared → Prop} {Q : Bool → Hp → Prop} (hh : A.handled = none) (hd : A.depth < recursionLimit)
    (hE : ∀ ps σ H s1 h' x, x.bare = true → Inv Y ps σ H s1 → Q false H → (∀ b o, s1.heap.get? b = some o → h'.get? b = some o) → Rr (.ok (.ret (.bool false))) { s1.setGen g x with heap := h' })
    (hF : ∀ ps σ H s1 x, x.bare = true → Inv Y ps σ H s1 → Q true H → Rr (.ok (.ret (.bool true))) (s1.setGen g x)) :
    ∀ (n : Nat) (s : Shared), s.heap.IsGen ga g → s.heap.NoLimit →
      (∃ gs, s.gens[g]? = some gs ∧ gs.Goes (model P w) A.in1.in1 (fun n s0 r s1 => r = .ok .next ∧ gR Y (conA ga g false) (fun _ H => Q false H) n s0 s1) (gY Y (conA ga g false) fun _ y H => y = .bl true ∧ Q true H) n (.send .none) (s.setGen g .running)) →
      codeAny (model P w) A (.builtin "any.loop" ⟨[.ref ga], []⟩) Rr s := by
  subst hYP hYw
  intro n
  induction n with
  | zero =>
    intro s hg hl ⟨gs, hgs, hgo⟩
    refine codeAny_builtin F.entry_any_loop ?_
    rw [Around.under_plainId F.plain_any_loop _]
    show wpAny _ A.in1 (pyNext (.ref ga) >>= _) _ _ s
    refine wpAny_bind (wpAny_pyNext_genexpQ (A := A.in1) hh hl hd hg hgs hgo (fun v s1 gs' hb hv => ?_) fun s1 hp h' hk => ?_)
    · obtain ⟨a, y, ps, σ, H, ry, I, _, _, q⟩ := hv
      rcases q with ⟨_, rfl, q⟩ | ⟨a', q1, q2⟩
      · cases ry
        refine wpAny_bind (wpAny_holding (wpAny_truthy_bool ?_))
        refine wpAny_bind (wpAny_letGo ?_)
        simp only [if_true]
        refine wpAny_bind (wpAny_rule (wpAny_pure ?_))
        exact hF ps σ H s1 gs' hb I q
      · have hi : s1.heap.IsGen ga g := by assumption
        exact (q2 _ (idle_set (x := .running) (y := .running) I.bare rfl rfl hi) hi).elim
    · obtain ⟨a, ps, σ, H, I, _, _, q⟩ := hp
      refine wpAny_bind (wpAny_rule (wpAny_pure ?_))
      exact hE ps σ H s1 h' .finished rfl I q hk
  | succ n ih =>
    intro s hg hl ⟨gs, hgs, hgo⟩
    have hgl : g < s.gens.size := (Array.getElem?_eq_some_iff.mp hgs).1
    refine codeAny_builtin F.entry_any_loop ?_
    rw [Around.under_plainId F.plain_any_loop _]
    show wpAny _ A.in1 (pyNext (.ref ga) >>= _) _ _ s
    refine wpAny_bind (wpAny_gsz (n := g + 1) hgl (wpAny_pyNext_genexpQ (A := A.in1) hh hl hd hg hgs hgo (fun v s1 gs' hb hv hsz => ?_) fun s1 hp h' hk hsz => ?_))
    · obtain ⟨a, y, ps, σ, H, ry, I, _, hi, q⟩ := hv
      rcases q with ⟨_, rfl, q⟩ | ⟨a', q1, q2⟩
      · cases ry
        refine wpAny_bind (wpAny_holding (wpAny_truthy_bool ?_))
        refine wpAny_bind (wpAny_letGo ?_)
        simp only [if_true]
        refine wpAny_bind (wpAny_rule (wpAny_pure ?_))
        exact hF ps σ H s1 gs' hb I q
      · have ey : y = .bl false := by
          by_cases e : y = .bl false
          · exact e
          · have z : (conA ga g false).stp a y = none := if_neg e
            rw [z] at q1
            cases q1
        subst ey
        cases ry
        refine wpAny_bind (wpAny_holding (wpAny_truthy_bool ?_))
        refine wpAny_bind (wpAny_letGo ?_)
        simp only [Bool.false_eq_true, if_false]
        have hi' : s1.heap.IsGen ga g := hi
        have hgl1 : g < s1.gens.size := by
          have e1 : (s1.setGen g gs').gens.size = s1.gens.size := setGen_size _ _ _
          omega
        refine wpAny_pure ⟨plainId_quiet F.plain_any_loop _, ih (s1.setGen g gs') hi' I.nolimit ⟨gs', setGen_at hgl1, ?_⟩⟩
        exact q2 _ (idle_set I.bare hb rfl hi') hi'
    · obtain ⟨a, ps, σ, H, I, _, _, q⟩ := hp
      refine wpAny_bind (wpAny_rule (wpAny_pure ?_))
      exact hE ps σ H s1 h' .finished rfl I q hk
end
def tAnyG (P : Addr) (wi : TI) (g : TG) (tt : TT) (te : TE) (vs : List Nat) : TE := fun σ H Q => wi σ H fun J H1 => GxR.TabG H1 P ∧ ∀ H2, GxR.Tabbed P H1 H2 →
  ∃ W : Nat → Nat → Unit → Hp → Prop, (∃ m, W 0 m () H2) ∧ turns J g tt te vs (stpA false) (fun _ y H => y = .bl true ∧ Q (.bl true) H) (fun _ H => Q (.bl false) H) σ W
theorem boot_any : bootBuiltins "any" = some (.builtin "any") := by decide +kernel
section
variable {X : Cx}
theorem pe_anyG {c P : Addr} {elt tg iter : Expr} {ifs : List Expr} {scope : Scope} {own : List (Str × Nat)} {p pos gpos : Pos} {wi : TI} {g : TG} {tt : TT} {te : TE} {k : Nat}
    (hr : Room k X.A) (hg : Gl X "any") (hm : X.mg "any" = none) (TB : GxR.TabB X.base X.mg c P) (hcode : X.env.code = .ref c) (hN : X.N.Nodup) (hi : PI X tg iter wi) (G : GParts X elt tg iter ifs scope own g tt te)
    (he : starEach [gG elt tg iter ifs scope gpos] X.env = (false, eval (gG elt tg iter ifs scope gpos) X.env) :: starEach [] X.env := by rfl) :
    PE X (.Call (.Name "any" p) [gG elt tg iter ifs scope gpos] [] pos) (tAnyG P wi g tt te (own.map (·.2))) := by
  refine ⟨fun pins s σ H Q I h => ?_⟩
  refine wpAny_Call_Name_kw (ld_blt I hg hm boot_any ?_)
  refine PyProof.Rows.callWith_builtin1 ?_ he (by rfl)
  rw [he]
  show wpAny _ _ (spliced ((false, eval (gG elt tg iter ifs scope gpos) X.env) :: backTo pos (starEach [] X.env))) _ _ s
  refine Calls.spliced_cons (gen_eval (R := fun J H2 => ∃ W : Nat → Nat → Unit → Hp → Prop, (∃ m, W 0 m () H2) ∧ turns J g tt te (List.map (fun q : Str × Nat => q.2) own) (stpA false) (fun _ y H => y = .bl true ∧ Q (.bl true) H) (fun _ H => Q (.bl false) H) σ W)
    hr TB hcode hi G.ok G.nc G.co G.dot G.hs I h fun ga gn t it fp tn J H2 s2 code M hR => ?_)
  obtain ⟨W, ⟨m, w0⟩, tu⟩ := hR
  refine Calls.spliced_nil ?_
  refine call_function_tree F.kind_any F.plain_any F.entry_any (F.args_any1 _) ?_
  unfold Builtin.«any»
  refine wpAny_bind (m := oneArg "any" _) (wpAny_pure ?_)
  refine wpAny_bind (wpAny_pyIter_gen M.isg ?_)
  have ga_ : GA X (gEnv X scope s2.heap.objs.size code) (gB X.A.in1.in1 elt tg iter ifs scope gpos it (gEnv X scope s2.heap.objs.size code)) :=
    ga_of hr M.inv.ok.frames rfl rfl rfl rfl (by show X.A.units + 1 + 1 ≤ _; omega)
  have fok : ∀ b ∈ fp, FpOk X pins H2 b := fun b hb => (M.fok b hb).1
  refine wpAny_pure ⟨plainId_quiet F.plain_any_loop _, any_loop (Y := gcx X (gB X.A.in1.in1 elt tg iter ifs scope gpos it (gEnv X scope s2.heap.objs.size code)) s2 H2 (gEnv X scope s2.heap.objs.size code) fp) (Q := fun b H => Q (.bl b) H) rfl rfl hr.hd hr.depth
    (fun ps σ' H' s1 h' x hx J' q hk => ?_) (fun ps σ' H' s1 x hx J' q => ?_) (m + 1) t M.isg ?_ ⟨_, M.gen, ?_⟩⟩
  · refine ⟨.bl false, H', ?_, rfl, q⟩
    exact (gen_back M.inv fok J' hx).kept (t' := s1.toks) hk
  · exact ⟨.bl true, H', gen_back M.inv fok J' hx, rfl, q⟩
  · exact M.inv.nolimit.keeps M.kp
  · exact gen_goes (c := conA ga gn false) M hr G.ok G.nc hN G.co (fun b hb => by rw [List.mem_singleton.mp hb]; exact M.ga) ga_
      (G.pg _ _ _ _ _ _ ga_) (G.pt _ _ _ _ _ _ ga_) (G.pe _ _ _ _ _ _ ga_) tu w0 (Nat.lt_succ_self _) rfl (allBare_setGen M.bare rfl) (fun _ _ e => e) M.isg
end
end Mw

namespace Mw
open PySem PySem.Spec PyProof.Rows L2
/-! ### what a world's changes know -/
theorem names_nodup {ws : List Str} {cs : List Ch} (w : Wr ws cs) : (names cs).Nodup := by
  induction w with
  | nil => exact .nil
  | snoc w s ih =>
    rename_i cs c0
    show ((cs ++ [c0]).map (·.nm)).Nodup
    rw [List.map_append, List.nodup_append]
    refine ⟨ih, by simp, fun a ha b hb => ?_⟩
    rw [List.mem_singleton.mp hb]
    intro e
    have e' : a = c0.nm := e
    exact step_new w s (by rw [← e']; exact ha)
theorem find_own {cs : List Ch} (nd : (names cs).Nodup) : ∀ {c : Ch}, c ∈ cs → findC cs c.nm = some c := by
  induction cs with
  | nil => intro c hc; cases hc
  | cons a r ih =>
    intro c hc
    have nd' : (a.nm :: names r).Nodup := nd
    have h2 := List.nodup_cons.mp nd'
    unfold findC
    rw [List.find?_cons]
    by_cases e : a.nm = c.nm
    · rw [decide_eq_true e]
      rcases List.mem_cons.mp hc with h | h
      · rw [h]
      · exact absurd (List.mem_map.mpr ⟨c, h, e.symm⟩) h2.1
    · rw [decide_eq_false e]
      rcases List.mem_cons.mp hc with h | h
      · exact absurd (by rw [h]) e
      · exact ih h2.2 h
theorem knOf_own {ws : List Str} {cs : List Ch} (w : Wr ws cs) {c : Ch} (h : c ∈ cs) : knOf cs c.nm = c.kn := by
  unfold knOf
  rw [find_own (names_nodup w) h]
  rfl
theorem knOf_old {cs : List Ch} {c : Ch} {n : Nm} (h : n ∈ names cs) : knOf (cs ++ [c]) n = knOf cs n := by
  unfold knOf
  rw [knOf_snoc_old h]
theorem step_kn {ws : List Str} {cs : List Ch} {c : Ch} (s : StepOk ws cs c) : ∃ gs : List Nm, (∀ g ∈ gs, g ∈ names cs) ∧ c.kn = srt (want cs gs) ∧ c.base = (c.kn.filter fun n => !decide (n ∈ below cs c.kn)) ∧ c.nm.1 = 1 + maxZ 0 (c.kn.map (·.1)) := by
  obtain ⟨br, hand, gs, deed, _, _, hg, _, e, _⟩ := s.ex
  subst e
  exact ⟨gs, hg, rfl, rfl, rfl⟩
theorem cnt_lt {ws : List Str} {cs : List Ch} (w : Wr ws cs) : ∀ c ∈ cs, ∀ n ∈ c.kn, n.1 < c.nm.1 := by
  induction w with
  | nil => intro c hc; cases hc
  | snoc w s ih =>
    rename_i cs c0
    intro c hc n hn
    rcases List.mem_append.mp hc with h | h
    · exact ih c h n hn
    · rw [List.mem_singleton.mp h] at hn ⊢
      obtain ⟨gs, _, _, _, e⟩ := step_kn s
      have h3 : n.1 ≤ maxZ 0 (c0.kn.map (·.1)) := maxZ_ge (List.mem_map.mpr ⟨n, hn, rfl⟩)
      rw [e]
      omega
theorem mem_want_iff {cs : List Ch} {gs : List Nm} {n : Nm} : n ∈ want cs gs ↔ ∃ g ∈ gs, n ∈ knOf cs g ∨ n = g := by
  unfold want
  rw [mem_gather, List.mem_flatMap]
  constructor
  · rintro ⟨g, h1, h2⟩
    rcases List.mem_append.mp h2 with h | h
    · exact ⟨g, h1, .inl h⟩
    · exact ⟨g, h1, .inr (List.mem_singleton.mp h)⟩
  · rintro ⟨g, h1, h | h⟩
    · exact ⟨g, h1, List.mem_append_left _ h⟩
    · exact ⟨g, h1, by rw [h]; simp⟩
/-- who knows one knows what that one knows -/
theorem kn_trans {ws : List Str} {cs : List Ch} (w : Wr ws cs) : ∀ c ∈ cs, ∀ n ∈ c.kn, ∀ m ∈ knOf cs n, m ∈ c.kn := by
  induction w with
  | nil => intro c hc; cases hc
  | snoc w s ih =>
    rename_i cs c0
    intro c hc n hn m hm
    rcases List.mem_append.mp hc with h | h
    · have hin := kn_sub w c h n hn
      rw [knOf_old hin] at hm
      exact ih c h n hn m hm
    · rw [List.mem_singleton.mp h] at hn ⊢
      obtain ⟨gs, hg, e, _, _⟩ := step_kn s
      rw [e] at hn ⊢
      have hn' := mem_srt.mp hn
      have hin := want_sub w hg hn'
      rw [knOf_old hin] at hm
      obtain ⟨g, h1, h2⟩ := mem_want_iff.mp hn'
      refine mem_srt.mpr (mem_want_iff.mpr ⟨g, h1, .inl ?_⟩)
      rcases h2 with h2 | h2
      · obtain ⟨cg, f1, f2, _⟩ := findC_mem (hg g h1)
        have ek : knOf cs g = cg.kn := by unfold knOf; rw [f1]; rfl
        rw [ek] at h2 ⊢
        exact ih cg f2 n h2 m hm
      · rw [← h2]; exact hm
theorem mem_below {cs : List Ch} {fl : List Nm} {n : Nm} : n ∈ below cs fl ↔ ∃ m ∈ fl, n ∈ knOf cs m := by
  unfold below
  rw [mem_gather, List.mem_flatMap]
/-- all that is known is of the base, or known to one of it -/
theorem base_gen {ws : List Str} {cs : List Ch} (w : Wr ws cs) : ∀ c ∈ cs, ∀ n ∈ c.kn, ∃ b ∈ c.base, n = b ∨ n ∈ knOf cs b := by
  induction w with
  | nil => intro c hc; cases hc
  | snoc w s ih =>
    rename_i cs c0
    intro c hc n hn
    rcases List.mem_append.mp hc with h | h
    · obtain ⟨b, hb, h2⟩ := ih c h n hn
      refine ⟨b, hb, h2.imp id fun z => ?_⟩
      by_cases hbn : b ∈ names cs
      · rw [knOf_old hbn]; exact z
      · have : knOf cs b = [] := by
          unfold knOf
          have : findC cs b = none := by
            unfold findC
            rw [List.find?_eq_none]
            intro x hx hd
            exact hbn (List.mem_map.mpr ⟨x, hx, of_decide_eq_true hd⟩)
          rw [this]
          rfl
        rw [this] at z
        cases z
    · rw [List.mem_singleton.mp h] at hn ⊢
      obtain ⟨gs, hg, e, eb, _⟩ := step_kn s
      have kin : ∀ n ∈ c0.kn, n ∈ names cs := fun n hn => by rw [e] at hn; exact want_sub w hg (mem_srt.mp hn)
      have tr : ∀ a ∈ names cs, ∀ x ∈ knOf cs a, ∀ y ∈ knOf cs x, y ∈ knOf cs a := fun a ha x hx y hy => by
        obtain ⟨ca, f1, f2, _⟩ := findC_mem ha
        have ek : knOf cs a = ca.kn := by unfold knOf; rw [f1]; rfl
        rw [ek] at hx ⊢
        exact kn_trans w ca f2 x hx y hy
      have up : ∀ a ∈ names cs, ∀ x ∈ knOf cs a, x.1 < a.1 := fun a ha x hx => by
        obtain ⟨ca, f1, f2, f3⟩ := findC_mem ha
        have ek : knOf cs a = ca.kn := by unfold knOf; rw [f1]; rfl
        rw [ek] at hx
        rw [← f3]
        exact cnt_lt w ca f2 x hx
      have go : ∀ (k : Nat) (n : Nm), n ∈ c0.kn → (cs.length : Int) - n.1 ≤ k → ∃ b ∈ c0.base, n = b ∨ n ∈ knOf cs b := by
        intro k
        induction k with
        | zero =>
          intro n hn hk
          by_cases hb : n ∈ below cs c0.kn
          · obtain ⟨m, hm, hnm⟩ := mem_below.mp hb
            have h1 := up m (kin m hm) n hnm
            have h2 := (cnt_le w m (kin m hm)).2
            omega
          · exact ⟨n, by rw [eb, List.mem_filter]; exact ⟨hn, by simp [hb]⟩, .inl rfl⟩
        | succ k ihk =>
          intro n hn hk
          by_cases hb : n ∈ below cs c0.kn
          · obtain ⟨m, hm, hnm⟩ := mem_below.mp hb
            have h1 := up m (kin m hm) n hnm
            obtain ⟨b, hbb, h2⟩ := ihk m hm (by omega)
            refine ⟨b, hbb, .inr ?_⟩
            have bin : b ∈ names cs := kin b (by rw [eb, List.mem_filter] at hbb; exact hbb.1)
            rcases h2 with h2 | h2
            · rw [← h2]; exact hnm
            · exact tr b bin m h2 n hnm
          · exact ⟨n, by rw [eb, List.mem_filter]; exact ⟨hn, by simp [hb]⟩, .inl rfl⟩
      have h0 := (cnt_le w n (kin n hn)).1
      obtain ⟨b, hb, h2⟩ := go cs.length n hn (by omega)
      have bin : b ∈ names cs := kin b (by rw [eb, List.mem_filter] at hb; exact hb.1)
      exact ⟨b, hb, by rw [knOf_old bin]; exact h2⟩
theorem base_sub {ws : List Str} {cs : List Ch} (w : Wr ws cs) : ∀ c ∈ cs, ∀ b ∈ c.base, b ∈ c.kn := by
  induction w with
  | nil => intro c hc; cases hc
  | snoc w s ih =>
    intro c hc b hb
    rcases List.mem_append.mp hc with h | h
    · exact ih c h b hb
    · rw [List.mem_singleton.mp h] at hb ⊢
      obtain ⟨_, _, _, eb, _⟩ := step_kn s
      rw [eb, List.mem_filter] at hb
      exact hb.1
/-! ### names in their order -/
theorem leN_total (a b : Nm) : (leN a b || leN b a) = true := by
  rw [leN_eq, leN_eq]
  by_cases h : a.1 = b.1
  · rw [if_pos h, if_pos h.symm, lexLe_eq, lexLe_eq]
    by_cases h2 : b.2.cps.toList < a.2.cps.toList
    · have : ¬ a.2.cps.toList < b.2.cps.toList := fun z => List.lt_irrefl _ (List.lt_trans z h2)
      simp [this]
    · simp [h2]
  · rw [if_neg h, if_neg (fun z => h z.symm)]
    simp
    omega
theorem lexLe_trans : ∀ {a b c : List Nat}, lexLe a b = true → lexLe b c = true → lexLe a c = true
  | [], _, _, _, _ => by simp [lexLe]
  | x :: a, [], _, h, _ => by simp [lexLe] at h
  | x :: a, y :: b, [], _, h => by simp [lexLe] at h
  | x :: a, y :: b, z :: c, h1, h2 => by
    unfold lexLe at h1 h2 ⊢
    by_cases e1 : x = y
    · subst e1
      rw [if_pos rfl] at h1
      by_cases e2 : x = z
      · subst e2
        rw [if_pos rfl] at h2 ⊢
        exact lexLe_trans h1 h2
      · rw [if_neg e2] at h2 ⊢
        exact h2
    · rw [if_neg e1] at h1
      have h1' := of_decide_eq_true h1
      by_cases e2 : y = z
      · subst e2
        rw [if_neg e1]
        exact h1
      · rw [if_neg e2] at h2
        have h2' := of_decide_eq_true h2
        rw [if_neg (by omega)]
        exact decide_eq_true (by omega)
theorem leN_trans {a b c : Nm} (h1 : leN a b = true) (h2 : leN b c = true) : leN a c = true := by
  rw [leN_eq] at h1 h2 ⊢
  by_cases e1 : a.1 = b.1
  · rw [if_pos e1] at h1
    by_cases e2 : b.1 = c.1
    · rw [if_pos e2] at h2
      rw [if_pos (e1.trans e2)]
      exact lexLe_trans h1 h2
    · rw [if_neg e2] at h2
      rw [if_neg (by omega), e1]
      exact h2
  · rw [if_neg e1] at h1
    have h1' := of_decide_eq_true h1
    by_cases e2 : b.1 = c.1
    · rw [if_neg (by omega)]
      exact decide_eq_true (by omega)
    · rw [if_neg e2] at h2
      have h2' := of_decide_eq_true h2
      rw [if_neg (by omega)]
      exact decide_eq_true (by omega)
theorem srt_sorted (ns : List Nm) : (srt ns).Pairwise fun a b => leN a b = true := by
  have h := List.pairwise_mergeSort (le := PySem.W.dataLe false nmD) (fun a b c h1 h2 => leN_trans (a := a) (b := b) (c := c) h1 h2) (fun a b => leN_total a b) ns
  exact h
end Mw

namespace Mw
open PySem PySem.Spec PyProof.Rows L2
section
variable {X : Cx}
/-! ### a name in a tuple of names -/
def rInT (K : PySem.W.Frag) : R2 := fun x y H Q => ∃ d ds, Dp K H x d ∧ Dp K H y (.tuple ds) ∧ SeqAt.shaped d = true ∧ SeqAt.shaped (.tuple ds) = true ∧ Q (.bl (ds.any fun z => PyData.eqv z d)) H
def rNotInT (K : PySem.W.Frag) : R2 := fun x y H Q => ∃ d ds, Dp K H x d ∧ Dp K H y (.tuple ds) ∧ SeqAt.shaped d = true ∧ SeqAt.shaped (.tuple ds) = true ∧ Q (.bl (!ds.any fun z => PyData.eqv z d)) H
theorem op_inT (hu : X.A.units + 66 < cLine) : OpR X (compareOp .In) (rInT X.K) := by
  intro pins s σ H x y v u Q I rx ry h
  obtain ⟨d, ds, hd, he, sd, se, q⟩ := h
  obtain ⟨as, r1⟩ := Dp.reads I d x v hd rx
  obtain ⟨bs, r2⟩ := Dp.reads I (.tuple ds) y u he ry
  have hd64 : d.depth ≤ 64 := of_decide_eq_true (Bool.and_eq_true_iff.mp (show (d.canLay0 && decide (d.depth ≤ 64)) = true from sd)).2
  have hl : PyData.canLayAll0 ds = true := by simpa only [PyData.canLay0] using SeqAt.canLay_of_shaped se
  exact SeqAt.in_tuple_reads r2 r1 hl (SeqAt.canLay_of_shaped sd) (by omega) ⟨.bl _, H, I, rfl, q⟩
theorem op_notInT (hu : X.A.units + 66 < cLine) : OpR X (compareOp .NotIn) (rNotInT X.K) := by
  intro pins s σ H x y v u Q I rx ry h
  obtain ⟨d, ds, hd, he, sd, se, q⟩ := h
  obtain ⟨as, r1⟩ := Dp.reads I d x v hd rx
  obtain ⟨bs, r2⟩ := Dp.reads I (.tuple ds) y u he ry
  have hd64 : d.depth ≤ 64 := of_decide_eq_true (Bool.and_eq_true_iff.mp (show (d.canLay0 && decide (d.depth ≤ 64)) = true from sd)).2
  have hl : PyData.canLayAll0 ds = true := by simpa only [PyData.canLay0] using SeqAt.canLay_of_shaped se
  exact SeqAt.notIn_tuple_reads r2 r1 hl (SeqAt.canLay_of_shaped sd) (by omega) ⟨.bl _, H, I, rfl, q⟩
theorem r66 {k : Nat} {A : Around} (r : Room k A) : A.units + 66 < cLine := by have := r.un; omega
end
/-! ### a call of a def of one's own that shows things -/
section
variable {X : Cx} {k : Nat} {f : Addr} {fd : FuncData} {ps : List Str} {sp : Sp} {x : Str} {p pos : Pos} {e : Expr} {es : List Expr} {t : TA} {dvs : List V} {ds : List Value} {E : XK}
theorem pe_callG (F : FnG X.prog X.w X.K X.mg X.base k f fd ps sp) (hr : Room k X.A) (gu : X.A.guards = some []) (hg : Gl X x) (hm : X.mg x = some (.ref f)) (hk : PySem.W.keepIn X.K (.ref f) = true) (hb : Binds X.K fd ps ds) (hd : Vals dvs ds) (hx : Passes CX0 X E)
    (ha : PA X (e :: es) t) (hdb : (x == ("__debug__" : Str)) = false := by decide) (he : starEach (e :: es) X.env = (false, eval e X.env) :: starEach es X.env := by rfl) (hpl : (backTo pos (starEach es X.env)).any (·.1) = false := by rfl) :
    PE X (.Call (.Name x p) (e :: es) [] pos) (tCall sp dvs E t) := by
  refine ⟨fun pins s σ H Q I h => wpAny_Call_Name_kw (ld_glob I hg hm ?_ hdb)⟩
  refine PySem.W.callWith_K (h₀ := X.base) I.ok.mod.kin hk (thn (ha.run pos pins s σ H _ I h) fun us s1 ⟨vs, H1, I1, r, q⟩ => ⟨I1.kIn, ?_⟩) he hpl
  have r2 : Vals (vs ++ dvs) (us ++ ds) := r.append hd
  have hl : (us ++ ds).length = ps.length := r2.length.symm.trans (F.len _ _ _ _ q)
  refine wpAny_call (codeAny_mono (F.run X.A X.stack s1 H1 ⟨us, []⟩ _ _ Q E hr gu I1.env0 (hb s1 us I1.kIn hl) r2 q) fun res s2 hq => ?_)
  match res, hq with
  | .error er, hq => exact hx pins σ H1 s1 er s2 I1 hq
  | .ok (.ret u), hq => exact I1.after hq
  | .ok .next, hq => exact hq.elim
  | .ok .brk, hq => exact hq.elim
  | .ok .cont, hq => exact hq.elim
end
end Mw

/-! Aw1: an abstract machine above the hand layer: data as plain trees, mutable things as numbered cells, no addresses. -/
namespace Aw
open PySem PySem.Spec PyProof.Rows L2 Mw
abbrev D := PyData
/-- the tables of code objects of generators; those of lambdas, with the name of their code -/
structure Fx where
  tb : List Addr
  ct : List (Addr × Str)
/-- a value: plain data that never changes, or a cell -/
inductive W where
  | d (x : PyData)
  | ref (i : Nat)
  /-- the script -/
  | scr (ns : List Int)
inductive Cell where
  | lst (ws : List W)
  | dct (t : Bool) (kvs : List (PyData × W))
  /-- a dict that is walked: read, not written -/
  | lck (t : Bool) (kvs : List (PyData × W))
abbrev Sto := List Cell
abbrev Ev := List (Option W)
def kD : Key → PyData
  | .inl i => .int i
  | .inr x => .str x
def kT (ks : List Key) : PyData := .tuple (ks.map kD)
/-- a list of the text, or one that is no cell -/
def SqS (K : PySem.W.Frag) (ρ : List Addr) (H : Hp) (a : Addr) (xs : List V) : Prop := SqL K H a xs ∧ (a ∈ ρ → ∀ H', SqL K H' a xs)
/-- a list that is no cell -/
def SqO (ρ : List Addr) (H : Hp) (a : Addr) (xs : List V) : Prop := a ∉ ρ ∧ Rd H a (.lst xs)
/-- a tuple whose first item is a tuple: laid by its object -/
def isRow : List PyData → Bool
  | .tuple _ :: _ => true
  | _ => false
def TuA (H : Hp) (a : Addr) (xs : List V) (ds : List PyData) : Prop := if isRow ds = true then ∃ o : Obj, H a = some (.frz o (.tup xs)) ∧ o.dict = none else H a = some (.tup xs)
theorem TuA.rd {H : Hp} {a : Addr} {xs : List V} {ds : List PyData} (h : TuA H a xs ds) : Rd H a (.tup xs) := by
  unfold TuA at h
  split at h
  · obtain ⟨o, h, _⟩ := h; exact .inr ⟨o, h⟩
  · exact .inl h
theorem TuA.plain {H : Hp} {a : Addr} {xs : List V} {ds : List PyData} (h : TuA H a xs ds) (e : isRow ds = false) : H a = some (.tup xs) := by
  unfold TuA at h
  rw [e] at h
  exact h
theorem TuA.of {H : Hp} {a : Addr} {xs : List V} {ds : List PyData} (h : H a = some (.tup xs)) (e : isRow ds = false) : TuA H a xs ds := by
  unfold TuA
  rw [e]
  exact h
theorem TuA.row {H : Hp} {a : Addr} {xs : List V} {ds : List PyData} (h : TuA H a xs ds) (e : isRow ds = true) : ∃ o : Obj, H a = some (.frz o (.tup xs)) ∧ o.dict = none := by
  unfold TuA at h
  rw [e] at h
  exact h
theorem TuA.ofRow {H : Hp} {a : Addr} {xs : List V} {ds : List PyData} {o : Obj} (h : H a = some (.frz o (.tup xs))) (hd : o.dict = none) (e : isRow ds = true) : TuA H a xs ds := by
  unfold TuA
  rw [e]
  exact ⟨o, h, hd⟩
mutual
/-- v stands for the data d, none of whose lists and dicts is a cell -/
inductive Rp (K : PySem.W.Frag) (ρ : List Addr) (H : Hp) : V → PyData → Prop
  | non : Rp K ρ H .non .none
  | bl (b : Bool) : Rp K ρ H (.bl b) (.bool b)
  | int (i : Int) : Rp K ρ H (.int i) (.int i)
  | str (x : Str) : Rp K ρ H (.str x) (.str x)
  | lst {a : Addr} {xs : List V} {ds : List PyData} : SqO ρ H a xs → RpAll K ρ H xs ds → Rp K ρ H (.ref a) (.list ds)
  | tup {a : Addr} {xs : List V} {ds : List PyData} : TuA H a xs ds → RpAll K ρ H xs ds → Rp K ρ H (.ref a) (.tuple ds)
  | dK {a : Addr} {hk : List (Key × V)} {ds : List (PyData × PyData)} : a ∉ ρ → Rd H a (.dK hk) → RpPs K ρ H (hk.map fun p => (kD p.1, p.2)) ds → Rp K ρ H (.ref a) (.dict ds)
  | dT {a : Addr} {hk : List (List Key × V)} {ds : List (PyData × PyData)} : a ∉ ρ → Rd H a (.dT hk) → RpPs K ρ H (hk.map fun p => (kT p.1, p.2)) ds → Rp K ρ H (.ref a) (.dict ds)
inductive RpAll (K : PySem.W.Frag) (ρ : List Addr) (H : Hp) : List V → List PyData → Prop
  | nil : RpAll K ρ H [] []
  | cons {v : V} {vs : List V} {d : PyData} {ds : List PyData} : Rp K ρ H v d → RpAll K ρ H vs ds → RpAll K ρ H (v :: vs) (d :: ds)
inductive RpPs (K : PySem.W.Frag) (ρ : List Addr) (H : Hp) : List (PyData × V) → List (PyData × PyData) → Prop
  | nil : RpPs K ρ H [] []
  | cons {k : PyData} {v : V} {d : PyData} {ps : List (PyData × V)} {ds : List (PyData × PyData)} : Rp K ρ H v d → RpPs K ρ H ps ds → RpPs K ρ H ((k, v) :: ps) ((k, d) :: ds)
end
def WR (K : PySem.W.Frag) (ρ : List Addr) (H : Hp) (v : V) : W → Prop
  | .d x => Rp K ρ H v x
  | .ref i => ∃ a, ρ[i]? = some a ∧ v = .ref a
  | .scr ns => ∃ a, v = .ref a ∧ SqS K ρ H a (ns.map V.int)
abbrev WRs (K : PySem.W.Frag) (ρ : List Addr) (H : Hp) : List V → List W → Prop := Paired (WR K ρ H)
def PRs (K : PySem.W.Frag) (ρ : List Addr) (H : Hp) : List (PyData × V) → List (PyData × W) → Prop := Paired fun p q => p.1 = q.1 ∧ WR K ρ H p.2 q.2
/-- a cell at an address -/
def CR (K : PySem.W.Frag) (ρ : List Addr) (H : Hp) (a : Addr) : Cell → Prop
  | .lst ws => ∃ xs, H a = some (.lst xs) ∧ WRs K ρ H xs ws
  | .dct false kvs => ∃ hk, H a = some (.dK hk) ∧ PRs K ρ H (hk.map fun p => (kD p.1, p.2)) kvs
  | .dct true kvs => ∃ hk, H a = some (.dT hk) ∧ PRs K ρ H (hk.map fun p => (kT p.1, p.2)) kvs
  | .lck false kvs => ∃ hk, (∃ o, H a = some (.frz o (.dK hk))) ∧ PRs K ρ H (hk.map fun p => (kD p.1, p.2)) kvs
  | .lck true kvs => ∃ hk, (∃ o, H a = some (.frz o (.dT hk))) ∧ PRs K ρ H (hk.map fun p => (kT p.1, p.2)) kvs
structure Rel (K : PySem.W.Frag) (T : Fx) (ρ : List Addr) (σ : Sto) (H : Hp) : Prop where
  len : σ.length = ρ.length
  nd : ρ.Nodup
  cell : ∀ (i : Nat) (a : Addr) (c : Cell), ρ[i]? = some a → σ[i]? = some c → CR K ρ H a c
  tb : Tb T.tb H
  ct : ∀ p ∈ T.ct, p.1 ∉ T.tb ∧ LamX.TabS H p.1 p.2
/-- how the heap may go on: the cells may change, new ones come, tables grow, all else stays -/
structure Go0 (T : Fx) (ρ : List Addr) (H : Hp) (ρ' : List Addr) (H' : Hp) : Prop where
  pre : ρ <+: ρ'
  new : ∀ b ∈ ρ', b ∈ ρ ∨ H b = none
  keep : ∀ b o, H b = some o → b ∉ ρ → (∀ ps, o ≠ .tbl ps) → H' b = some o ∨ (Mut (some o) ∧ (∀ φ, o ≠ .ext φ) ∧ ∃ od, H' b = some (.frz od o))
  th : ∀ b, H' b = none → H b = none
  lk0 : ∀ b o u, H b = some (.frz o u) → b ∉ ρ → H' b = some (.frz o u)
/-- .. and what is locked stays so -/
structure Go (T : Fx) (ρ : List Addr) (H : Hp) (ρ' : List Addr) (H' : Hp) : Prop extends Go0 T ρ H ρ' H' where
  lk : ∀ b o u, H b = some (.frz o u) → H' b = some (.frz o u)
section
variable {K : PySem.W.Frag} {T : Fx} {ρ ρ' ρ'' : List Addr} {H H' H'' : Hp} {σ σ' : Sto}
theorem Go.mk' (pre : ρ <+: ρ') (new : ∀ b ∈ ρ', b ∈ ρ ∨ H b = none) (keep : ∀ b o, H b = some o → b ∉ ρ → (∀ ps, o ≠ .tbl ps) → H' b = some o ∨ (Mut (some o) ∧ (∀ φ, o ≠ .ext φ) ∧ ∃ od, H' b = some (.frz od o))) (th : ∀ b, H' b = none → H b = none) (lk : ∀ b o u, H b = some (.frz o u) → H' b = some (.frz o u)) : Go T ρ H ρ' H' :=
  { pre := pre, new := new, keep := keep, th := th, lk0 := fun b o u e _ => lk b o u e, lk := lk }
theorem Go.refl : Go T ρ H ρ H := .mk' (List.prefix_refl _) (fun _ h => .inl h) (fun _ _ e _ _ => .inl e) (fun _ h => h) fun _ _ _ e => e
theorem Go.trans (a : Go T ρ H ρ' H') (b : Go T ρ' H' ρ'' H'') : Go T ρ H ρ'' H'' :=
  .mk' (a.pre.trans b.pre) (fun c hc => (b.new c hc).elim (fun h => a.new c h) fun h => .inr (a.th c h))
    (fun c o e n1 n2 => (a.keep c o e n1 n2).elim (fun e1 => b.keep c o e1 (fun h => (a.new c h).elim n1 fun z => by rw [e] at z; cases z) n2) (fun ⟨m, nx, od, e1⟩ => .inr ⟨m, nx, od, b.lk _ _ _ e1⟩))
    (fun c h => a.th c (b.th c h)) fun c o u e => b.lk _ _ _ (a.lk _ _ _ e)
/-- a new thing that is no cell -/
theorem Go.lay {p : Addr} {o : HO} (n : H p = none) : Go T ρ H ρ (upd H p o) :=
  .mk' (List.prefix_refl _) (fun _ h => .inl h) (fun b u e _ _ => .inl (by rw [upd_ne (ne_of_none e n)]; exact e)) (fun b h => by
    by_cases e : b = p
    · subst e; exact n
    · rwa [upd_ne e] at h) fun b o u e => by rw [upd_ne (ne_of_none e n)]; exact e
theorem Go.cell {p : Addr} {o : HO} (n : H p = none) : Go T ρ H (ρ ++ [p]) (upd H p o) :=
  .mk' (List.prefix_append _ _) (fun b h => (List.mem_append.mp h).elim .inl fun h => .inr (by rw [List.mem_singleton.mp h]; exact n)) (fun b u e _ _ => .inl (by rw [upd_ne (ne_of_none e n)]; exact e)) (fun b h => by
    by_cases e : b = p
    · subst e; exact n
    · rwa [upd_ne e] at h) fun b o u e => by rw [upd_ne (ne_of_none e n)]; exact e
theorem Go0.put {a : Addr} {o u : HO} (h : a ∈ ρ) (e : H a = some u) : Go0 T ρ H ρ (upd H a o) :=
  ⟨List.prefix_refl _, fun _ h => .inl h, fun b z eb n _ => .inl (by rw [upd_ne (fun (q : b = a) => n (by rw [q]; exact h))]; exact eb), fun b hb => by
    by_cases q : b = a
    · subst q; rw [upd_same] at hb; cases hb
    · rwa [upd_ne q] at hb, fun b o' x eb n => by rw [upd_ne (fun (q : b = a) => n (by rw [q]; exact h))]; exact eb⟩
theorem Go.put {a : Addr} {o u : HO} (h : a ∈ ρ) (e : H a = some u) (nf : Mut (some u) := by exact True.intro) : Go T ρ H ρ (upd H a o) :=
  ⟨Go0.put h e, fun b o' x eb => by
    have q : b ≠ a := fun q => by subst q; rw [e] at eb; cases eb; exact nf
    rw [upd_ne q]; exact eb⟩
/-- a thing that is no cell is locked -/
theorem Go.lockD {a : Addr} {u : HO} {od : Obj} (h : a ∉ ρ) (e : H a = some u) (mu : Mut (some u)) (nx : ∀ φ, u ≠ .ext φ := by intro φ z; cases z) : Go T ρ H ρ (upd H a (.frz od u)) :=
  .mk' (List.prefix_refl _) (fun _ h => .inl h) (fun b z eb n _ => by
    by_cases q : b = a
    · subst q; rw [e] at eb; cases eb; exact .inr ⟨mu, nx, od, upd_same⟩
    · exact .inl (by rw [upd_ne q]; exact eb)) (fun b hb => by
    by_cases q : b = a
    · subst q; rw [upd_same] at hb; cases hb
    · rwa [upd_ne q] at hb) fun b o' x eb => by
    have q : b ≠ a := fun q => by subst q; rw [e] at eb; cases eb; exact mu
    rw [upd_ne q]; exact eb
theorem Go.grw (t : Tb T.tb H) (g : Grw T.tb H H') : Go T ρ H ρ H' :=
  .mk' (List.prefix_refl _) (fun _ h => .inl h) (fun b o e _ n => .inl (by rw [g.2 b fun z => (by obtain ⟨ps, h1, _⟩ := t b z; rw [h1] at e; exact n ps (Option.some.inj e).symm)]; exact e)) (fun b h => g.none h) fun b o u e => by
    rw [g.2 b fun z => by
      obtain ⟨ps, h1, _⟩ := t b z
      rw [h1] at e; cases e]
    exact e
theorem Go0.rd (t : Tb T.tb H) (g : Go0 T ρ H ρ' H') {a : Addr} {u : HO} (n : a ∉ ρ) (r : Rd H a u) (hu : ∀ ps, u ≠ .tbl ps) : a ∉ ρ' ∧ Rd H' a u := by
  have nt : a ∉ T.tb := fun h => by
    obtain ⟨ps, h1, _⟩ := t a h
    rcases r with r | ⟨o, r⟩
    · rw [h1] at r; exact hu ps (Option.some.inj r).symm
    · rw [h1] at r; cases r
  constructor
  · intro h
    rcases g.new a h with z | z
    · exact n z
    · rcases r with r | ⟨o, r⟩ <;> (rw [z] at r; cases r)
  · rcases r with r | ⟨o, r⟩
    · rcases g.keep _ _ r n hu with q | ⟨_, _, q⟩
      · exact .inl q
      · exact .inr q
    · exact .inr ⟨o, g.lk0 _ _ _ r n⟩
theorem Rel.noTup (r : Rel K T ρ σ H) {a : Addr} (h : a ∈ ρ) : ∀ xs, ¬ Rd H a (.tup xs) := fun xs q => by
  obtain ⟨i, hi⟩ := List.getElem?_of_mem h
  have hl : i < σ.length := by rw [r.len]; exact (List.getElem?_eq_some_iff.mp hi).1
  have hc := r.cell i a σ[i] hi (List.getElem?_eq_getElem hl)
  cases h1 : σ[i] with
  | lst ws =>
    rw [h1] at hc
    obtain ⟨xs, e, _⟩ := hc
    rcases q with q | ⟨o, q⟩ <;> (rw [e] at q; cases q)
  | dct t kvs =>
    rw [h1] at hc
    cases t <;> (obtain ⟨xs, e, _⟩ := hc; rcases q with q | ⟨o, q⟩ <;> (rw [e] at q; cases q))
  | lck t kvs =>
    rw [h1] at hc
    cases t <;> (obtain ⟨xs, ⟨_, e⟩, _⟩ := hc; rcases q with q | ⟨o, q⟩ <;> (rw [e] at q; cases q))
theorem Go0.tup (r : Rel K T ρ σ H) (g : Go0 T ρ H ρ' H') {a : Addr} {xs : List V} (h : H a = some (.tup xs)) : H' a = some (.tup xs) := by
  rcases g.keep _ _ h (fun z => r.noTup z xs (.inl h)) (fun ps z => by cases z) with q | ⟨m, _⟩
  · exact q
  · exact m.elim
theorem Go0.tuA (r : Rel K T ρ σ H) (g : Go0 T ρ H ρ' H') {a : Addr} {xs : List V} {ds : List PyData} (h : TuA H a xs ds) : TuA H' a xs ds := by
  by_cases e : isRow ds = true
  · obtain ⟨o, h1, h2⟩ := h.row e
    exact .ofRow (g.lk0 _ _ _ h1 fun z => r.noTup z xs (.inr ⟨o, h1⟩)) h2 e
  · rw [Bool.not_eq_true] at e
    exact .of (g.tup r (h.plain e)) e
theorem Go0.sqO (r : Rel K T ρ σ H) (g : Go0 T ρ H ρ' H') {a : Addr} {xs : List V} (h : SqO ρ H a xs) : SqO ρ' H' a xs := g.rd r.tb h.1 h.2 (fun ps z => by cases z)
theorem Go0.sqS (r : Rel K T ρ σ H) (g : Go0 T ρ H ρ' H') {a : Addr} {xs : List V} (h : SqS K ρ H a xs) : SqS K ρ' H' a xs := by
  obtain ⟨h1, h2⟩ := h
  by_cases ha : a ∈ ρ
  · exact ⟨h2 ha H', fun _ => h2 ha⟩
  · rcases h1 with h1 | h1
    · obtain ⟨q1, q2⟩ := g.rd r.tb ha h1 (fun ps z => by cases z)
      exact ⟨.inl q2, fun z => absurd z q1⟩
    · exact ⟨.inr h1, fun _ _ => .inr h1⟩
mutual
theorem Go0.rp (r : Rel K T ρ σ H) (g : Go0 T ρ H ρ' H') : ∀ {d : PyData} {v : V}, Rp K ρ H v d → Rp K ρ' H' v d
  | _, _, .non => .non
  | _, _, .bl b => .bl b
  | _, _, .int i => .int i
  | _, _, .str x => .str x
  | _, _, .lst h a => .lst (g.sqO r h) (Go0.rpAll r g a)
  | _, _, .tup h a => .tup (g.tuA r h) (Go0.rpAll r g a)
  | _, _, .dK n h a => .dK (g.rd r.tb n h (fun ps z => by cases z)).1 (g.rd r.tb n h (fun ps z => by cases z)).2 (Go0.rpPs r g a)
  | _, _, .dT n h a => .dT (g.rd r.tb n h (fun ps z => by cases z)).1 (g.rd r.tb n h (fun ps z => by cases z)).2 (Go0.rpPs r g a)
theorem Go0.rpAll (r : Rel K T ρ σ H) (g : Go0 T ρ H ρ' H') : ∀ {ds : List PyData} {vs : List V}, RpAll K ρ H vs ds → RpAll K ρ' H' vs ds
  | _, _, .nil => .nil
  | _, _, .cons h t => .cons (Go0.rp r g h) (Go0.rpAll r g t)
theorem Go0.rpPs (r : Rel K T ρ σ H) (g : Go0 T ρ H ρ' H') : ∀ {ds : List (PyData × PyData)} {vs : List (PyData × V)}, RpPs K ρ H vs ds → RpPs K ρ' H' vs ds
  | _, _, .nil => .nil
  | _, _, .cons h t => .cons (Go0.rp r g h) (Go0.rpPs r g t)
end
theorem Go0.at_ (g : Go0 T ρ H ρ' H') {i : Nat} {a : Addr} (h : ρ[i]? = some a) : ρ'[i]? = some a := by
  obtain ⟨t, rfl⟩ := g.pre
  rw [List.getElem?_append_left (List.getElem?_eq_some_iff.mp h).1]
  exact h
theorem Go0.wr (r : Rel K T ρ σ H) (g : Go0 T ρ H ρ' H') {v : V} : ∀ {w : W}, WR K ρ H v w → WR K ρ' H' v w
  | .d x, h => Go0.rp r g h
  | .ref i, ⟨a, h, e⟩ => ⟨a, g.at_ h, e⟩
  | .scr ns, ⟨a, e, h⟩ => ⟨a, e, g.sqS r h⟩
theorem Paired.imp {α β : Type} {R S : α → β → Prop} : ∀ {l : List α} {m : List β}, Paired R l m → (∀ a b, R a b → S a b) → Paired S l m := fun h f => Paired.mapP h f
theorem Go0.wrs (r : Rel K T ρ σ H) (g : Go0 T ρ H ρ' H') {vs : List V} {ws : List W} (h : WRs K ρ H vs ws) : WRs K ρ' H' vs ws := Paired.mapP h fun _ _ q => Go0.wr r g q
theorem Go0.prs (r : Rel K T ρ σ H) (g : Go0 T ρ H ρ' H') {vs : List (PyData × V)} {ws : List (PyData × W)} (h : PRs K ρ H vs ws) : PRs K ρ' H' vs ws := Paired.mapP h fun _ _ q => ⟨q.1, Go0.wr r g q.2⟩
theorem Go.rd (t : Tb T.tb H) (g : Go T ρ H ρ' H') {a : Addr} {u : HO} (n : a ∉ ρ) (r : Rd H a u) (hu : ∀ ps, u ≠ .tbl ps) : a ∉ ρ' ∧ Rd H' a u := g.toGo0.rd t n r hu
theorem Go.tup (r : Rel K T ρ σ H) (g : Go T ρ H ρ' H') {a : Addr} {xs : List V} (h : H a = some (.tup xs)) : H' a = some (.tup xs) := g.toGo0.tup r h
theorem Go.sqO (r : Rel K T ρ σ H) (g : Go T ρ H ρ' H') {a : Addr} {xs : List V} (h : SqO ρ H a xs) : SqO ρ' H' a xs := g.toGo0.sqO r h
theorem Go.sqS (r : Rel K T ρ σ H) (g : Go T ρ H ρ' H') {a : Addr} {xs : List V} (h : SqS K ρ H a xs) : SqS K ρ' H' a xs := g.toGo0.sqS r h
theorem Go.rp (r : Rel K T ρ σ H) (g : Go T ρ H ρ' H') {d : PyData} {v : V} (h : Rp K ρ H v d) : Rp K ρ' H' v d := g.toGo0.rp r h
theorem Go.rpAll (r : Rel K T ρ σ H) (g : Go T ρ H ρ' H') {ds : List PyData} {vs : List V} (h : RpAll K ρ H vs ds) : RpAll K ρ' H' vs ds := g.toGo0.rpAll r h
theorem Go.rpPs (r : Rel K T ρ σ H) (g : Go T ρ H ρ' H') {ds : List (PyData × PyData)} {vs : List (PyData × V)} (h : RpPs K ρ H vs ds) : RpPs K ρ' H' vs ds := g.toGo0.rpPs r h
theorem Go.at_ (g : Go T ρ H ρ' H') {i : Nat} {a : Addr} (h : ρ[i]? = some a) : ρ'[i]? = some a := g.toGo0.at_ h
theorem Go.wr (r : Rel K T ρ σ H) (g : Go T ρ H ρ' H') {v : V} {w : W} (h : WR K ρ H v w) : WR K ρ' H' v w := g.toGo0.wr r h
theorem Go.wrs (r : Rel K T ρ σ H) (g : Go T ρ H ρ' H') {vs : List V} {ws : List W} (h : WRs K ρ H vs ws) : WRs K ρ' H' vs ws := g.toGo0.wrs r h
theorem Go.prs (r : Rel K T ρ σ H) (g : Go T ρ H ρ' H') {vs : List (PyData × V)} {ws : List (PyData × W)} (h : PRs K ρ H vs ws) : PRs K ρ' H' vs ws := g.toGo0.prs r h
/-- the slots -/
def OR (K : PySem.W.Frag) (ρ : List Addr) (H : Hp) : Option V → Option W → Prop
  | some v, some w => WR K ρ H v w
  | none, some _ => False
  | _, none => True
abbrev ER (K : PySem.W.Frag) (ρ : List Addr) (H : Hp) : List (Option V) → Ev → Prop := Paired (OR K ρ H)
theorem Go.er (r : Rel K T ρ σ H) (g : Go T ρ H ρ' H') {s : List (Option V)} {e : Ev} (h : ER K ρ H s e) : ER K ρ' H' s e := Paired.mapP h fun a b q => by
  cases a with
  | none => cases b with
    | none => exact q
    | some w => exact q
  | some v => cases b with
    | none => exact q
    | some w => exact Go.wr r g (w := w) q
/-- a cell that did not change -/
theorem CR.go (r : Rel K T ρ σ H) (g : Go0 T ρ H ρ' H') {a : Addr} (e : H' a = H a) : ∀ {c : Cell}, CR K ρ H a c → CR K ρ' H' a c
  | .lst ws, ⟨xs, h, q⟩ => ⟨xs, by rw [e]; exact h, g.wrs r q⟩
  | .dct false kvs, ⟨hk, h, q⟩ => ⟨hk, by rw [e]; exact h, g.prs r q⟩
  | .dct true kvs, ⟨hk, h, q⟩ => ⟨hk, by rw [e]; exact h, g.prs r q⟩
  | .lck false kvs, ⟨hk, h, q⟩ => ⟨hk, by rw [e]; exact h, g.prs r q⟩
  | .lck true kvs, ⟨hk, h, q⟩ => ⟨hk, by rw [e]; exact h, g.prs r q⟩
theorem CR.some {a : Addr} : ∀ {c : Cell}, CR K ρ H a c → ∃ o, H a = some o ∧ ∀ ps, o ≠ .tbl ps
  | .lst ws, ⟨xs, h, q⟩ => ⟨_, h, fun ps z => by cases z⟩
  | .dct false kvs, ⟨hk, h, q⟩ => ⟨_, h, fun ps z => by cases z⟩
  | .dct true kvs, ⟨hk, h, q⟩ => ⟨_, h, fun ps z => by cases z⟩
  | .lck false kvs, ⟨hk, ⟨o, h⟩, q⟩ => ⟨_, h, fun ps z => by cases z⟩
  | .lck true kvs, ⟨hk, ⟨o, h⟩, q⟩ => ⟨_, h, fun ps z => by cases z⟩
theorem Rel.at_ (r : Rel K T ρ σ H) {i : Nat} {c : Cell} (h : σ[i]? = some c) : ∃ a, ρ[i]? = some a ∧ CR K ρ H a c := by
  have hl : i < ρ.length := by rw [← r.len]; exact (List.getElem?_eq_some_iff.mp h).1
  exact ⟨ρ[i], List.getElem?_eq_getElem hl, r.cell i _ c (List.getElem?_eq_getElem hl) h⟩
theorem Rel.has (r : Rel K T ρ σ H) {a : Addr} (h : a ∈ ρ) : ∃ o, H a = some o ∧ ∀ ps, o ≠ .tbl ps := by
  obtain ⟨i, hi⟩ := List.getElem?_of_mem h
  have hl : i < σ.length := by rw [r.len]; exact (List.getElem?_eq_some_iff.mp hi).1
  exact (r.cell i a σ[i] hi (List.getElem?_eq_getElem hl)).some
theorem Rel.noExt (r : Rel K T ρ σ H) {a : Addr} (h : a ∈ ρ) : ∀ φ, H a ≠ some (.ext φ) := fun φ q => by
  obtain ⟨i, hi⟩ := List.getElem?_of_mem h
  have hl : i < σ.length := by rw [r.len]; exact (List.getElem?_eq_some_iff.mp hi).1
  have hc := r.cell i a σ[i] hi (List.getElem?_eq_getElem hl)
  cases h1 : σ[i] with
  | lst ws =>
    rw [h1] at hc
    obtain ⟨xs, e, _⟩ := hc
    rw [e] at q; cases q
  | dct t kvs =>
    rw [h1] at hc
    cases t <;> (obtain ⟨xs, e, _⟩ := hc; rw [e] at q; cases q)
  | lck t kvs =>
    rw [h1] at hc
    cases t <;> (obtain ⟨xs, ⟨_, e⟩, _⟩ := hc; rw [e] at q; cases q)
/-- the tables of lambdas go on -/
theorem Rel.lam (r : Rel K T ρ σ H) (g : Go0 T ρ H ρ' H') {p : Addr × Str} (hp : p ∈ T.ct) (e : H' p.1 = H p.1) : p.1 ∉ T.tb ∧ LamX.TabS H' p.1 p.2 := by
  obtain ⟨n1, ps, h1, h2, h3⟩ := r.ct p hp
  refine ⟨n1, ps, by rw [e]; exact h1, h2, fun pos cv hc => ?_⟩
  obtain ⟨c, e1, e2⟩ := h3 pos cv hc
  refine ⟨c, e1, ?_⟩
  rcases g.keep c _ e2 (fun z => r.noExt z _ e2) (fun ps z => LamX.codeO_ne ps z) with q | ⟨_, nx, _⟩
  · exact q
  · exact (nx _ rfl).elim
theorem Rel.lamT (r : Rel K T ρ σ H) {p : Addr × Str} (hp : p ∈ T.ct) : ∃ ps, H p.1 = some (.tbl ps) := by
  obtain ⟨_, ps, h1, _⟩ := r.ct p hp
  exact ⟨ps, h1⟩
/-- the heap goes on and no cell changes -/
theorem Rel.go (r : Rel K T ρ σ H) (g : Go0 T ρ H ρ H') (t : Tb T.tb H') (e : ∀ a ∈ ρ, H' a = H a) (el : ∀ p ∈ T.ct, H' p.1 = H p.1) : Rel K T ρ σ H' :=
  ⟨r.len, r.nd, fun i a c h1 h2 => (r.cell i a c h1 h2).go r g (e a (List.mem_of_getElem? h1)), t, fun p hp => r.lam g hp (el p hp)⟩
theorem Rel.lay (r : Rel K T ρ σ H) {p : Addr} {o : HO} (n : H p = none) : Rel K T ρ σ (upd H p o) :=
  r.go (Go.lay n).toGo0 (r.tb.new n) (fun a ha => by
    obtain ⟨u, hu, _⟩ := r.has ha
    rw [upd_ne (ne_of_none hu n)]) fun q hq => by
    obtain ⟨ps, h1⟩ := r.lamT hq
    rw [upd_ne (ne_of_none h1 n)]
theorem Rel.grw (r : Rel K T ρ σ H) (g : Grw T.tb H H') : Rel K T ρ σ H' :=
  r.go (Go.grw r.tb g).toGo0 g.1 (fun a ha => by
    refine g.2 a fun z => ?_
    obtain ⟨u, hu, nu⟩ := r.has ha
    obtain ⟨ps, h1, _⟩ := r.tb a z
    rw [hu] at h1
    exact nu ps (Option.some.inj h1)) fun q hq => g.2 _ (r.ct q hq).1
/-- a thing that is no cell is locked -/
theorem Rel.lockD (r : Rel K T ρ σ H) {a : Addr} {u : HO} {od : Obj} (h : a ∉ ρ) (e : H a = some u) (nt : ∀ ps, u ≠ .tbl ps) (mu : Mut (some u) := by exact True.intro) (nx : ∀ φ, u ≠ .ext φ := by intro φ z; cases z) : Rel K T ρ σ (upd H a (.frz od u)) :=
  r.go (Go.lockD h e mu nx).toGo0 (r.tb.over e nt) (fun b hb => upd_ne (fun (z : b = a) => h (by rw [← z]; exact hb))) fun q hq => by
    obtain ⟨ps, h1⟩ := r.lamT hq
    refine upd_ne fun z => ?_
    rw [z, e] at h1
    exact nt ps (Option.some.inj h1)
/-- a new cell -/
theorem Rel.cell' (r : Rel K T ρ σ H) {p : Addr} {o : HO} {c : Cell} (n : H p = none) (h : CR K (ρ ++ [p]) (upd H p o) p c) : Rel K T (ρ ++ [p]) (σ ++ [c]) (upd H p o) := by
  have np : p ∉ ρ := fun z => by
    obtain ⟨u, hu, _⟩ := r.has z
    rw [n] at hu; cases hu
  refine ⟨by rw [List.length_append, List.length_append, r.len]; rfl, ?_, fun i a c' h1 h2 => ?_, r.tb.new n, fun q hq => r.lam (Go.cell n).toGo0 hq (by
    obtain ⟨ps, h1⟩ := r.lamT hq
    rw [upd_ne (ne_of_none h1 n)])⟩
  · rw [List.nodup_append]
    exact ⟨r.nd, by simp, fun a ha b hb => by rw [List.mem_singleton.mp hb]; exact fun z => np (z ▸ ha)⟩
  · by_cases hi : i < ρ.length
    · rw [List.getElem?_append_left hi] at h1
      rw [List.getElem?_append_left (by rw [r.len]; exact hi)] at h2
      refine (r.cell i a c' h1 h2).go r (Go.cell n).toGo0 ?_
      obtain ⟨u, hu, _⟩ := r.has (List.mem_of_getElem? h1)
      rw [upd_ne (ne_of_none hu n)]
    · have hi' : i = ρ.length := by
        have := (List.getElem?_eq_some_iff.mp h1).1
        rw [List.length_append, List.length_singleton] at this
        omega
      subst hi'
      rw [List.getElem?_append_right (Nat.le_refl _), Nat.sub_self] at h1
      rw [List.getElem?_append_right (by rw [r.len]; exact Nat.le_refl _), r.len, Nat.sub_self] at h2
      cases h1
      cases h2
      exact h
/-- a cell changes -/
theorem Rel.put (r : Rel K T ρ σ H) {i : Nat} {a : Addr} {o : HO} {c : Cell} (hi : ρ[i]? = some a) (h : CR K ρ (upd H a o) a c) : Rel K T ρ (σ.set i c) (upd H a o) := by
  have ha : a ∈ ρ := List.mem_of_getElem? hi
  obtain ⟨u, hu, nu⟩ := r.has ha
  refine ⟨by rw [List.length_set, r.len], r.nd, fun j b c' h1 h2 => ?_, r.tb.over hu nu, fun q hq => r.lam (Go0.put ha hu) hq (by
    obtain ⟨ps, h1⟩ := r.lamT hq
    refine upd_ne fun z => ?_
    rw [z, hu] at h1
    exact nu ps (Option.some.inj h1))⟩
  by_cases hj : j = i
  · subst hj
    rw [hi] at h1
    cases h1
    rw [List.getElem?_set_self (by rw [r.len]; exact (List.getElem?_eq_some_iff.mp hi).1)] at h2
    cases h2
    exact h
  · rw [List.getElem?_set_ne (Ne.symm hj)] at h2
    refine (r.cell j b c' h1 h2).go r (Go0.put ha hu) ?_
    have : b ≠ a := fun z => by
      subst z
      obtain ⟨l1, e1⟩ := List.getElem?_eq_some_iff.mp h1
      obtain ⟨l2, e2⟩ := List.getElem?_eq_some_iff.mp hi
      exact hj ((List.getElem_inj r.nd).mp (e1.trans e2.symm))
    rw [upd_ne this]
end
end Aw

/-! Aw2: readings of the hand layer followed by readings of the abstract machine. -/
namespace Aw
open PySem PySem.Spec PyProof.Rows L2 Mw
/-- an error: its class, its fields -/
structure Xn where
  cls : Str
  fs : List W
structure Zx where
  K : PySem.W.Frag
  T : Fx
  xr : List Addr → Hp → Value → Option Addr → Xn → Prop
abbrev QK := W → Sto → Prop
abbrev XQ := Xn → Sto → Prop
abbrev AE := Ev → Sto → QK → XQ → Prop
abbrev AT := Ev → Sto → (Bool → Sto → Prop) → XQ → Prop
abbrev AA := Ev → Sto → (List W → Sto → Prop) → XQ → Prop
abbrev AF := List W → Sto → QK → XQ → Prop
/-- what is wanted behind a statement -/
structure AK where
  nx : Ev → Sto → Prop
  rt : QK
  ex : Ev → XQ
abbrev AS := AK → Ev → Sto → Prop
abbrev AG := W → Ev → Sto → (Ev → Sto → Prop) → Prop
section
variable (Z : Zx) (ρ : List Addr) (H : Hp)
def KQ (Qa : QK) (Q : VK) : Prop := ∀ ρ' σ' H' v w, Go Z.T ρ H ρ' H' → Rel Z.K Z.T ρ' σ' H' → WR Z.K ρ' H' v w → Qa w σ' → Q v H'
def KB (Qa : Bool → Sto → Prop) (Q : Bool → Hp → Prop) : Prop := ∀ ρ' σ' H' b, Go Z.T ρ H ρ' H' → Rel Z.K Z.T ρ' σ' H' → Qa b σ' → Q b H'
def KA (Qa : List W → Sto → Prop) (Q : List V → Hp → Prop) : Prop := ∀ ρ' σ' H' vs ws, Go Z.T ρ H ρ' H' → Rel Z.K Z.T ρ' σ' H' → WRs Z.K ρ' H' vs ws → Qa ws σ' → Q vs H'
def KX (Ea : XQ) (E : XK) : Prop := ∀ ρ' σ' H' cls od x, Go Z.T ρ H ρ' H' → Rel Z.K Z.T ρ' σ' H' → Z.xr ρ' H' cls od x → Ea x σ' → E cls od H'
def KS (N : Ev → Sto → Prop) (M : L2.St → Hp → Prop) : Prop := ∀ ρ' σ' H' s' e', Go Z.T ρ H ρ' H' → Rel Z.K Z.T ρ' σ' H' → ER Z.K ρ' H' s' e' → N e' σ' → M s' H'
def KXs (Ea : Ev → XQ) (E : L2.St → XK) : Prop := ∀ ρ' σ' H' s' e' cls od x, Go Z.T ρ H ρ' H' → Rel Z.K Z.T ρ' σ' H' → ER Z.K ρ' H' s' e' → Z.xr ρ' H' cls od x → Ea e' x σ' → E s' cls od H'
end
section
variable {Z : Zx} {ρ ρ' : List Addr} {H H' : Hp}
theorem KQ.d {Qa : QK} {Q : VK} {σ : Sto} {v : V} {x : PyData} (k : KQ Z ρ H Qa Q) (g : Go Z.T ρ H ρ' H') (r : Rel Z.K Z.T ρ' σ H') (h : Rp Z.K ρ' H' v x) (q : Qa (.d x) σ) : Q v H' := k _ _ _ _ (.d x) g r h q
theorem KQ.r {Qa : QK} {Q : VK} {σ : Sto} {a : Addr} {i : Nat} (k : KQ Z ρ H Qa Q) (g : Go Z.T ρ H ρ' H') (r : Rel Z.K Z.T ρ' σ H') (h : ρ'[i]? = some a) (q : Qa (.ref i) σ) : Q (.ref a) H' := k _ _ _ _ (.ref i) g r ⟨a, h, rfl⟩ q
theorem KQ.go {Qa : QK} {Q : VK} (k : KQ Z ρ H Qa Q) (g : Go Z.T ρ H ρ' H') : KQ Z ρ' H' Qa Q := fun _ _ _ _ _ g' => k _ _ _ _ _ (g.trans g')
theorem KB.go {Qa : Bool → Sto → Prop} {Q : Bool → Hp → Prop} (k : KB Z ρ H Qa Q) (g : Go Z.T ρ H ρ' H') : KB Z ρ' H' Qa Q := fun _ _ _ _ g' => k _ _ _ _ (g.trans g')
theorem KA.go {Qa : List W → Sto → Prop} {Q : List V → Hp → Prop} (k : KA Z ρ H Qa Q) (g : Go Z.T ρ H ρ' H') : KA Z ρ' H' Qa Q := fun _ _ _ _ _ g' => k _ _ _ _ _ (g.trans g')
theorem KX.go {Ea : XQ} {E : XK} (k : KX Z ρ H Ea E) (g : Go Z.T ρ H ρ' H') : KX Z ρ' H' Ea E := fun _ _ _ _ _ _ g' => k _ _ _ _ _ _ (g.trans g')
theorem KS.go {N : Ev → Sto → Prop} {M : L2.St → Hp → Prop} (k : KS Z ρ H N M) (g : Go Z.T ρ H ρ' H') : KS Z ρ' H' N M := fun _ _ _ _ _ g' => k _ _ _ _ _ (g.trans g')
theorem KXs.go {Ea : Ev → XQ} {E : L2.St → XK} (k : KXs Z ρ H Ea E) (g : Go Z.T ρ H ρ' H') : KXs Z ρ' H' Ea E := fun _ _ _ _ _ _ _ _ g' => k _ _ _ _ _ _ _ _ (g.trans g')
end
class SimE (Z : Zx) (E : L2.St → XK) (te : TE) (ae : outParam AE) : Prop where
  sim : ∀ {ρ : List Addr} {σ : Sto} {H : Hp} {s : L2.St} {e : Ev} {Qa : QK} {Ea : XQ} {Q : VK}, Rel Z.K Z.T ρ σ H → ER Z.K ρ H s e → ae e σ Qa Ea → KQ Z ρ H Qa Q → KX Z ρ H Ea (E s) → te s H Q
class SimT (Z : Zx) (E : L2.St → XK) (te : TT) (ae : outParam AT) : Prop where
  sim : ∀ {ρ : List Addr} {σ : Sto} {H : Hp} {s : L2.St} {e : Ev} {Qa : Bool → Sto → Prop} {Ea : XQ} {Q : Bool → Hp → Prop}, Rel Z.K Z.T ρ σ H → ER Z.K ρ H s e → ae e σ Qa Ea → KB Z ρ H Qa Q → KX Z ρ H Ea (E s) → te s H Q
class SimA (Z : Zx) (E : L2.St → XK) (te : TA) (ae : outParam AA) : Prop where
  sim : ∀ {ρ : List Addr} {σ : Sto} {H : Hp} {s : L2.St} {e : Ev} {Qa : List W → Sto → Prop} {Ea : XQ} {Q : List V → Hp → Prop}, Rel Z.K Z.T ρ σ H → ER Z.K ρ H s e → ae e σ Qa Ea → KA Z ρ H Qa Q → KX Z ρ H Ea (E s) → te s H Q
class SimS (Z : Zx) (E : L2.St → XK) (ts : TS) (as : outParam AS) : Prop where
  sim : ∀ {ρ : List Addr} {σ : Sto} {H : Hp} {s : L2.St} {e : Ev} {k : AK} {D : Ends}, Rel Z.K Z.T ρ σ H → ER Z.K ρ H s e → as k e σ → KS Z ρ H k.nx D.nx → KQ Z ρ H k.rt D.rt → KXs Z ρ H k.ex E → ts D s H
class SimG (Z : Zx) (g : TG) (ag : outParam AG) : Prop where
  sim : ∀ {ρ : List Addr} {σ : Sto} {H : Hp} {s : L2.St} {e : Ev} {v : V} {w : W} {N : Ev → Sto → Prop} {M : L2.St → Hp → Prop}, Rel Z.K Z.T ρ σ H → ER Z.K ρ H s e → WR Z.K ρ H v w → ag w e σ N → KS Z ρ H N M → g v s H M
class SimGs (Z : Zx) (g : TGs) (ag : outParam (List W → Ev → Sto → (Ev → Sto → Prop) → Prop)) : Prop where
  sim : ∀ {ρ : List Addr} {σ : Sto} {H : Hp} {s : L2.St} {e : Ev} {vs : List V} {ws : List W} {N : Ev → Sto → Prop} {M : L2.St → Hp → Prop}, Rel Z.K Z.T ρ σ H → ER Z.K ρ H s e → WRs Z.K ρ H vs ws → ag ws e σ N → KS Z ρ H N M → g vs s H M
/-- two-place operations, calls of built-ins, methods -/
class SimR2 (Z : Zx) (r : R2) (ra : outParam (W → W → Sto → QK → Prop)) : Prop where
  sim : ∀ {ρ : List Addr} {σ : Sto} {H : Hp} {x y : V} {a b : W} {Qa : QK} {Q : VK}, Rel Z.K Z.T ρ σ H → WR Z.K ρ H x a → WR Z.K ρ H y b → ra a b σ Qa → KQ Z ρ H Qa Q → r x y H Q
class SimU (Z : Zx) (r : V → Hp → VK → Prop) (ra : outParam (W → Sto → QK → Prop)) : Prop where
  sim : ∀ {ρ : List Addr} {σ : Sto} {H : Hp} {x : V} {a : W} {Qa : QK} {Q : VK}, Rel Z.K Z.T ρ σ H → WR Z.K ρ H x a → ra a σ Qa → KQ Z ρ H Qa Q → r x H Q
class SimC (Z : Zx) (r : List V → Hp → VK → Prop) (ra : outParam (List W → Sto → QK → Prop)) : Prop where
  sim : ∀ {ρ : List Addr} {σ : Sto} {H : Hp} {xs : List V} {ws : List W} {Qa : QK} {Q : VK}, Rel Z.K Z.T ρ σ H → WRs Z.K ρ H xs ws → ra ws σ Qa → KQ Z ρ H Qa Q → r xs H Q
class SimM (Z : Zx) (r : V → List V → Hp → VK → Prop) (ra : outParam (W → List W → Sto → QK → Prop)) : Prop where
  sim : ∀ {ρ : List Addr} {σ : Sto} {H : Hp} {x : V} {a : W} {xs : List V} {ws : List W} {Qa : QK} {Q : VK}, Rel Z.K Z.T ρ σ H → WR Z.K ρ H x a → WRs Z.K ρ H xs ws → ra a ws σ Qa → KQ Z ρ H Qa Q → r x xs H Q
theorem Paired.get {α β : Type} {R : α → β → Prop} : ∀ {l : List α} {m : List β} {i : Nat} {b : β}, Paired R l m → m[i]? = some b → ∃ a, l[i]? = some a ∧ R a b
  | _, _, _, _, .nil, e => by simp at e
  | _, _, 0, _, .cons r _, e => by simp at e; subst e; exact ⟨_, rfl, r⟩
  | _, _, i + 1, b, .cons _ t, e => by
    obtain ⟨u, h1, h2⟩ := Paired.get (i := i) (b := b) t (by simpa using e)
    exact ⟨u, by simpa using h1, h2⟩
theorem Paired.set {α β : Type} {R : α → β → Prop} {x : α} {u : β} (r : R x u) : ∀ {xs : List α} {us : List β} (i : Nat), Paired R xs us → Paired R (xs.set i x) (us.set i u)
  | _, _, _, .nil => .nil
  | _, _, 0, .cons _ t => .cons r t
  | _, _, i + 1, .cons q t => .cons q (Paired.set r i t)
theorem Paired.len {α β : Type} {R : α → β → Prop} : ∀ {l : List α} {m : List β}, Paired R l m → l.length = m.length
  | _, _, .nil => rfl
  | _, _, .cons _ t => by simp [Paired.len t]
/-! ### names, constants -/
def aVar (i : Nat) : AE := fun e σ Q _ => ∃ w, e[i]? = some (some w) ∧ Q w σ
def aD (x : PyData) : AE := fun _ σ Q _ => Q (.d x) σ
section
variable {Z : Zx} {E : L2.St → XK}
instance sim_var {i : Nat} : SimE Z E (tVar i) (aVar i) := ⟨fun {ρ σ H s e Qa Ea Q} r er h kq _ => by
  obtain ⟨w, hw, q⟩ := h
  obtain ⟨o, ho, hr⟩ := Paired.get er hw
  cases o with
  | none => exact hr.elim
  | some v => exact ⟨v, ho, kq _ _ _ _ _ .refl r hr q⟩⟩
instance sim_int {i : Int} : SimE Z E (tC (.int i)) (aD (.int i)) := ⟨fun r _ h kq _ => kq _ _ _ _ (.d (.int i)) .refl r (Rp.int i) h⟩
instance sim_bl {i : Bool} : SimE Z E (tC (.bl i)) (aD (.bool i)) := ⟨fun r _ h kq _ => kq _ _ _ _ (.d (.bool i)) .refl r (Rp.bl i) h⟩
instance sim_str {i : Str} : SimE Z E (tC (.str i)) (aD (.str i)) := ⟨fun r _ h kq _ => kq _ _ _ _ (.d (.str i)) .refl r (Rp.str i) h⟩
instance sim_non : SimE Z E (tC .non) (aD .none) := ⟨fun r _ h kq _ => kq _ _ _ _ (.d .none) .refl r Rp.non h⟩
/-! ### operators, arguments, calls of built-ins -/
variable {ta tb tc : TE} {fa fb fc : AE} {tt tu : TT} {ft fu : AT}
def aOp (ra : W → W → Sto → QK → Prop) (fa fb : AE) : AE := fun e σ Q X => fa e σ (fun x σ1 => fb e σ1 (fun y σ2 => ra x y σ2 Q) X) X
def aUn (ra : W → Sto → QK → Prop) (fa : AE) : AE := fun e σ Q X => fa e σ (fun x σ1 => ra x σ1 Q) X
instance sim_op {r : R2} {ra : W → W → Sto → QK → Prop} [i2 : SimR2 Z r ra] [ia : SimE Z E ta fa] [ib : SimE Z E tb fb] : SimE Z E (tOp r ta tb) (aOp ra fa fb) := ⟨fun r er h kq kx =>
  ia.sim r er h (fun _ _ _ _ _ g1 r1 v1 h1 => ib.sim r1 (g1.er r er) h1 (fun _ _ _ _ _ g2 r2 v2 h2 => i2.sim r2 (g2.wr r1 v1) v2 h2 (kq.go (g1.trans g2))) (kx.go g1)) kx⟩
instance sim_un {r : V → Hp → VK → Prop} {ra : W → Sto → QK → Prop} [i2 : SimU Z r ra] [ia : SimE Z E ta fa] : SimE Z E (tUn r ta) (aUn ra fa) := ⟨fun r er h kq kx =>
  ia.sim r er h (fun _ _ _ _ _ g1 r1 v1 h1 => i2.sim r1 v1 h1 (kq.go g1)) kx⟩
def aNil : AA := fun _ σ Q _ => Q [] σ
def aCons (fa : AE) (fr : AA) : AA := fun e σ Q X => fa e σ (fun x σ1 => fr e σ1 (fun xs σ2 => Q (x :: xs) σ2) X) X
instance sim_anil : SimA Z E tNil aNil := ⟨fun r _ h k _ => k _ _ _ _ _ .refl r .nil h⟩
instance sim_acons {t : TA} {fr : AA} [ia : SimE Z E ta fa] [ir : SimA Z E t fr] : SimA Z E (tCons ta t) (aCons fa fr) := ⟨fun r er h k kx =>
  ia.sim r er h (fun _ _ _ _ _ g1 r1 v1 h1 => ir.sim r1 (g1.er r er) h1 (fun _ _ _ _ _ g2 r2 v2 h2 => k _ _ _ _ _ (g1.trans g2) r2 (.cons (g2.wr r1 v1) v2) h2) (kx.go g1)) kx⟩
def aCB (ra : List W → Sto → QK → Prop) (fa : AA) : AE := fun e σ Q X => fa e σ (fun xs σ1 => ra xs σ1 Q) X
instance sim_cb {r : List V → Hp → VK → Prop} {ra : List W → Sto → QK → Prop} {t : TA} {fr : AA} [i2 : SimC Z r ra] [ir : SimA Z E t fr] : SimE Z E (tCB r t) (aCB ra fr) := ⟨fun r er h kq kx =>
  ir.sim r er h (fun _ _ _ _ _ g1 r1 v1 h1 => i2.sim r1 v1 h1 (kq.go g1)) kx⟩
/-! ### tests -/
def aTest (fa : AE) : AT := fun e σ Q X => fa e σ (fun x σ1 => ∃ b, x = .d (.bool b) ∧ Q b σ1) X
theorem WR.bool {K : PySem.W.Frag} {ρ : List Addr} {H : Hp} {v : V} {b : Bool} (h : WR K ρ H v (.d (.bool b))) : v = .bl b := by cases h; rfl
theorem WR.int {K : PySem.W.Frag} {ρ : List Addr} {H : Hp} {v : V} {b : Int} (h : WR K ρ H v (.d (.int b))) : v = .int b := by cases h; rfl
theorem WR.str {K : PySem.W.Frag} {ρ : List Addr} {H : Hp} {v : V} {b : Str} (h : WR K ρ H v (.d (.str b))) : v = .str b := by cases h; rfl
instance sim_test [ia : SimE Z E ta fa] : SimT Z E (tTest ta) (aTest fa) := ⟨fun r er h k kx =>
  ia.sim r er h (fun _ _ _ _ _ g1 r1 v1 h1 => by
    obtain ⟨b, rfl, q⟩ := h1
    cases v1.bool
    exact ⟨b, rfl, k _ _ _ _ g1 r1 q⟩) kx⟩
instance sim_tB [ia : SimE Z E ta fa] : SimT Z E (tB ta) (aTest fa) := ⟨fun r er h k kx =>
  ia.sim r er h (fun _ _ _ _ _ g1 r1 v1 h1 => by
    obtain ⟨b, rfl, q⟩ := h1
    cases v1.bool
    exact ⟨b, rfl, k _ _ _ _ g1 r1 q⟩) kx⟩
def aAnd (ft fu : AT) : AT := fun e σ Q X => ft e σ (fun b σ1 => if b = true then fu e σ1 Q X else Q false σ1) X
def aOr (ft fu : AT) : AT := fun e σ Q X => ft e σ (fun b σ1 => if b = true then Q true σ1 else fu e σ1 Q X) X
def aNot (ft : AT) : AT := fun e σ Q X => ft e σ (fun b σ1 => Q (!b) σ1) X
instance sim_and [it : SimT Z E tt ft] [iu : SimT Z E tu fu] : SimT Z E (tAnd tt tu) (aAnd ft fu) := ⟨fun r er h k kx =>
  it.sim r er h (fun _ _ _ b g1 r1 h1 => by
    cases b with
    | true => exact iu.sim r1 (g1.er r er) h1 (k.go g1) (kx.go g1)
    | false => exact k _ _ _ _ g1 r1 h1) kx⟩
instance sim_or [it : SimT Z E tt ft] [iu : SimT Z E tu fu] : SimT Z E (tOr tt tu) (aOr ft fu) := ⟨fun r er h k kx =>
  it.sim r er h (fun _ _ _ b g1 r1 h1 => by
    cases b with
    | false => exact iu.sim r1 (g1.er r er) h1 (k.go g1) (kx.go g1)
    | true => exact k _ _ _ _ g1 r1 h1) kx⟩
instance sim_not [it : SimT Z E tt ft] : SimT Z E (tNot tt) (aNot ft) := ⟨fun r er h k kx =>
  it.sim r er h (fun _ _ _ b g1 r1 h1 => k _ _ _ _ g1 r1 h1) kx⟩
def aAndV (fa fb : AE) : AE := fun e σ Q X => fa e σ (fun x σ1 => ∃ b, x = .d (.bool b) ∧ if b = true then fb e σ1 Q X else Q (.d (.bool false)) σ1) X
def aOrV (fa fb : AE) : AE := fun e σ Q X => fa e σ (fun x σ1 => ∃ b, x = .d (.bool b) ∧ if b = true then Q (.d (.bool true)) σ1 else fb e σ1 Q X) X
def aNotV (fa : AE) : AE := fun e σ Q X => fa e σ (fun x σ1 => ∃ b, x = .d (.bool b) ∧ Q (.d (.bool (!b))) σ1) X
instance sim_andV [ia : SimE Z E ta fa] [ib : SimE Z E tb fb] : SimE Z E (tAndV ta tb) (aAndV fa fb) := ⟨fun r er h k kx =>
  ia.sim r er h (fun _ _ _ _ _ g1 r1 v1 h1 => by
    obtain ⟨b, rfl, q⟩ := h1
    cases v1.bool
    refine ⟨b, rfl, ?_⟩
    cases b with
    | true => exact ib.sim r1 (g1.er r er) q (k.go g1) (kx.go g1)
    | false => exact k.d g1 r1 (Rp.bl false) q) kx⟩
instance sim_orV [ia : SimE Z E ta fa] [ib : SimE Z E tb fb] : SimE Z E (tOrV ta tb) (aOrV fa fb) := ⟨fun r er h k kx =>
  ia.sim r er h (fun _ _ _ _ _ g1 r1 v1 h1 => by
    obtain ⟨b, rfl, q⟩ := h1
    cases v1.bool
    refine ⟨b, rfl, ?_⟩
    cases b with
    | false => exact ib.sim r1 (g1.er r er) q (k.go g1) (kx.go g1)
    | true => exact k.d g1 r1 (Rp.bl true) q) kx⟩
instance sim_notV [ia : SimE Z E ta fa] : SimE Z E (tNotV ta) (aNotV fa) := ⟨fun r er h k kx =>
  ia.sim r er h (fun _ _ _ _ _ g1 r1 v1 h1 => by
    obtain ⟨b, rfl, q⟩ := h1
    cases v1.bool
    exact ⟨b, rfl, k.d g1 r1 (Rp.bl (!b)) q⟩) kx⟩
def aIf (ft : AT) (fa fb : AE) : AE := fun e σ Q X => ft e σ (fun b σ1 => if b = true then fa e σ1 Q X else fb e σ1 Q X) X
instance sim_ifE [it : SimT Z E tt ft] [ia : SimE Z E ta fa] [ib : SimE Z E tb fb] : SimE Z E (tIf tt ta tb) (aIf ft fa fb) := ⟨fun r er h k kx =>
  it.sim r er h (fun _ _ _ b g1 r1 h1 => by
    cases b with
    | true => exact ia.sim r1 (g1.er r er) h1 (k.go g1) (kx.go g1)
    | false => exact ib.sim r1 (g1.er r er) h1 (k.go g1) (kx.go g1)) kx⟩
/-- a op1 b op2 c -/
def aChain (ra rb : W → W → Sto → QK → Prop) (fa fb fc : AE) : AE := fun e σ Q X => fa e σ (fun x σ1 => fb e σ1 (fun y σ2 => ra x y σ2 (fun z σ3 => ∃ k, z = .d (.bool k) ∧ if k = true then fc e σ3 (fun w σ4 => rb y w σ4 Q) X else Q (.d (.bool false)) σ3)) X) X
instance sim_chain {r r' : R2} {ra rb : W → W → Sto → QK → Prop} [i2 : SimR2 Z r ra] [i3 : SimR2 Z r' rb] [ia : SimE Z E ta fa] [ib : SimE Z E tb fb] [ic : SimE Z E tc fc] : SimE Z E (tChain r r' ta tb tc) (aChain ra rb fa fb fc) := ⟨fun r0 er h kq kx =>
  ia.sim r0 er h (fun _ _ _ _ _ g1 r1 v1 h1 => ib.sim r1 (g1.er r0 er) h1 (fun _ _ _ _ _ g2 r2 v2 h2 => i2.sim r2 (g2.wr r1 v1) v2 h2 (fun _ _ _ _ _ g3 r3 v3 h3 => by
    obtain ⟨k, rfl, q⟩ := h3
    cases v3.bool
    refine ⟨k, rfl, ?_⟩
    have g12 := g1.trans g2
    have g13 := g12.trans g3
    cases k with
    | true => exact ic.sim r3 (g13.er r0 er) q (fun _ _ _ _ _ g4 r4 v4 h4 => i3.sim r4 ((g3.trans g4).wr r2 v2) v4 h4 (kq.go (g13.trans g4))) (kx.go g13)
    | false => exact kq.d g13 r3 (Rp.bl false) q)) (kx.go g1)) kx⟩
/-! ### tuples; lists that stay -/
def pures : List W → Option (List PyData)
  | [] => some []
  | .d x :: r => (pures r).map (x :: ·)
  | _ :: _ => none
@[simp] theorem pures_nil : pures [] = some [] := rfl
@[simp] theorem pures_d (x : PyData) (r : List W) : pures (.d x :: r) = (pures r).map (x :: ·) := rfl
theorem pures_rp {K : PySem.W.Frag} {ρ : List Addr} {H : Hp} : ∀ {vs : List V} {ws : List W} {ds : List PyData}, WRs K ρ H vs ws → pures ws = some ds → RpAll K ρ H vs ds
  | _, _, ds, .nil, e => by cases e; exact .nil
  | _, .d x :: r, ds, .cons h t, e => by
    obtain ⟨ds', h1, rfl⟩ := Option.map_eq_some_iff.mp (show (pures r).map (x :: ·) = some ds from e)
    exact .cons h (pures_rp t h1)
  | _, .ref _ :: _, _, .cons _ _, e => by cases e
  | _, .scr _ :: _, _, .cons _ _, e => by cases e
theorem rpAll_wrs {K : PySem.W.Frag} {ρ : List Addr} {H : Hp} : ∀ {vs : List V} {ds : List PyData}, RpAll K ρ H vs ds → WRs K ρ H vs (ds.map .d)
  | _, _, .nil => .nil
  | _, _, .cons h t => .cons h (rpAll_wrs t)
theorem pures_map : ∀ ds : List PyData, pures (ds.map .d) = some ds
  | [] => rfl
  | d :: ds => by simp [pures_map ds]
theorem rpAll_len {K : PySem.W.Frag} {ρ : List Addr} {H : Hp} : ∀ {vs : List V} {ds : List PyData}, RpAll K ρ H vs ds → vs.length = ds.length
  | _, _, .nil => rfl
  | _, _, .cons _ t => by simp [rpAll_len t]
/-- what is laid anew, no cell -/
theorem KQ.layTp {Z : Zx} {ρ : List Addr} {σ : Sto} {H : Hp} {Qa : QK} {Q : VK} {p : Addr} {xs : List V} {ds : List PyData} (k : KQ Z ρ H Qa Q) (r : Rel Z.K Z.T ρ σ H) (n : H p = none) (h : RpAll Z.K ρ H xs ds) (q : Qa (.d (.tuple ds)) σ) (e : isRow ds = false) : Q (.ref p) (upd H p (.tup xs)) :=
  k.d (Go.lay n) (r.lay n) (Rp.tup (.of upd_same e) (Go.rpAll r (Go.lay n) h)) q
theorem KQ.layT {Z : Zx} {ρ : List Addr} {σ : Sto} {H : Hp} {Qa : QK} {Q : VK} {xs : List V} {ds : List PyData} (k : KQ Z ρ H Qa Q) (r : Rel Z.K Z.T ρ σ H) (h : RpAll Z.K ρ H xs ds) (q : Qa (.d (.tuple ds)) σ) : LayT H xs Q := by
  by_cases e : isRow ds = true
  · exact .inr fun p o n hd => k.d (Go.lay n) (r.lay n) (Rp.tup (.ofRow upd_same hd e) (Go.rpAll r (Go.lay n) h)) q
  · rw [Bool.not_eq_true] at e
    exact .inl fun p n => k.layTp r n h q e
theorem Rel.fresh {K : PySem.W.Frag} {T : Fx} {ρ : List Addr} {σ : Sto} {H : Hp} (r : Rel K T ρ σ H) {p : Addr} (n : H p = none) : p ∉ ρ := fun z => by
  obtain ⟨u, hu, _⟩ := r.has z
  rw [n] at hu
  cases hu
theorem KQ.layL {Z : Zx} {ρ : List Addr} {σ : Sto} {H : Hp} {Qa : QK} {Q : VK} {p : Addr} {xs : List V} {ds : List PyData} (k : KQ Z ρ H Qa Q) (r : Rel Z.K Z.T ρ σ H) (n : H p = none) (h : RpAll Z.K ρ H xs ds) (q : Qa (.d (.list ds)) σ) : Q (.ref p) (upd H p (.lst xs)) :=
  k.d (Go.lay n) (r.lay n) (Rp.lst ⟨r.fresh n, .inl upd_same⟩ (Go.rpAll r (Go.lay n) h)) q
/-- a new list that is a cell -/
theorem KQ.layC {Z : Zx} {ρ : List Addr} {σ : Sto} {H : Hp} {Qa : QK} {Q : VK} {p : Addr} {xs : List V} {ws : List W} (k : KQ Z ρ H Qa Q) (r : Rel Z.K Z.T ρ σ H) (n : H p = none) (h : WRs Z.K ρ H xs ws) (q : Qa (.ref σ.length) (σ ++ [.lst ws])) : Q (.ref p) (upd H p (.lst xs)) :=
  k.r (Go.cell n) (r.cell' (c := .lst ws) n ⟨xs, upd_same, (Go.cell n).wrs r h⟩) (by rw [r.len, List.getElem?_append_right (Nat.le_refl _), Nat.sub_self]; rfl) q
theorem KQ.layDK {Z : Zx} {ρ : List Addr} {σ : Sto} {H : Hp} {Qa : QK} {Q : VK} {p : Addr} (k : KQ Z ρ H Qa Q) (r : Rel Z.K Z.T ρ σ H) (n : H p = none) (q : Qa (.ref σ.length) (σ ++ [.dct false []])) : Q (.ref p) (upd H p (.dK [])) :=
  k.r (Go.cell n) (r.cell' (c := .dct false []) n ⟨[], upd_same, .nil⟩) (by rw [r.len, List.getElem?_append_right (Nat.le_refl _), Nat.sub_self]; rfl) q
theorem KQ.layDT {Z : Zx} {ρ : List Addr} {σ : Sto} {H : Hp} {Qa : QK} {Q : VK} {p : Addr} (k : KQ Z ρ H Qa Q) (r : Rel Z.K Z.T ρ σ H) (n : H p = none) (q : Qa (.ref σ.length) (σ ++ [.dct true []])) : Q (.ref p) (upd H p (.dT [])) :=
  k.r (Go.cell n) (r.cell' (c := .dct true []) n ⟨[], upd_same, .nil⟩) (by rw [r.len, List.getElem?_append_right (Nat.le_refl _), Nat.sub_self]; rfl) q
/-- a new empty dict that stays so -/
def aTup (fr : AA) : AE := fun e σ Q X => fr e σ (fun ws σ1 => ∃ ds, pures ws = some ds ∧ ds.length ≤ sizeLine ∧ Q (.d (.tuple ds)) σ1) X
instance sim_tup {t : TA} {fr : AA} [ir : SimA Z E t fr] : SimE Z E (tTupF t) (aTup fr) := ⟨fun r er h k kx =>
  ir.sim r er h (fun _ _ _ _ _ g1 r1 v1 h1 => by
    obtain ⟨ds, hp, hl, q⟩ := h1
    have ra := pures_rp v1 hp
    exact ⟨by rw [rpAll_len ra]; exact hl, (k.go g1).layT r1 ra q⟩) kx⟩
end
end Aw

/-! Aw3: statements, loops, calls. -/
namespace Aw
open PySem PySem.Spec PyProof.Rows L2 Mw
section
variable {Z : Zx} {E : L2.St → XK} {ta tb : TE} {fa fb : AE} {tt : TT} {ft : AT} {ts tu : TS} {sa sb : AS}
theorem KXs.at_ {ρ : List Addr} {σ : Sto} {H : Hp} {s : L2.St} {e : Ev} {Ea : Ev → XQ} (k : KXs Z ρ H Ea E) (r : Rel Z.K Z.T ρ σ H) (er : ER Z.K ρ H s e) : KX Z ρ H (Ea e) (E s) :=
  fun _ _ _ _ _ _ g r' x q => k _ _ _ _ _ _ _ _ g r' (g.er r er) x q
def aNext : AS := fun k e σ => k.nx e σ
def aNever : AS := fun _ _ _ => False
def aSeq (a b : AS) : AS := fun k e σ => a { k with nx := b k } e σ
def aDrop (fa : AE) : AS := fun k e σ => fa e σ (fun _ σ1 => k.nx e σ1) (k.ex e)
def aRet (fa : AE) : AS := fun k e σ => fa e σ k.rt (k.ex e)
def aRetN : AS := fun k _ σ => k.rt (.d .none) σ
def aIfS (ft : AT) (a b : AS) : AS := fun k e σ => ft e σ (fun c σ1 => if c = true then a k e σ1 else b k e σ1) (k.ex e)
def aAsg (fa : AE) (g : AG) : AS := fun k e σ => fa e σ (fun w σ1 => g w e σ1 k.nx) (k.ex e)
instance sim_next : SimS Z E tNext aNext := ⟨fun r er h kn _ _ => kn _ _ _ _ _ .refl r er h⟩
instance sim_never : SimS Z E tNever aNever := ⟨fun r er h kn _ _ => h.elim⟩
instance sim_seq [i1 : SimS Z E ts sa] [i2 : SimS Z E tu sb] : SimS Z E (tSeq ts tu) (aSeq sa sb) := ⟨fun r er h kn kr kx =>
  i1.sim r er h (fun _ _ _ _ _ g r' er' h' => i2.sim r' er' h' (kn.go g) (kr.go g) (kx.go g)) kr kx⟩
instance sim_drop [ia : SimE Z E ta fa] : SimS Z E (tDrop ta) (aDrop fa) := ⟨fun r er h kn kr kx =>
  ia.sim r er h (fun _ _ _ _ _ g r' _ h' => kn _ _ _ _ _ g r' (g.er r er) h') (kx.at_ r er)⟩
instance sim_ret [ia : SimE Z E ta fa] : SimS Z E (tRet ta) (aRet fa) := ⟨fun r er h kn kr kx => ia.sim r er h kr (kx.at_ r er)⟩
instance sim_retN : SimS Z E tRetN aRetN := ⟨fun r er h kn kr kx => kr.d .refl r Rp.non h⟩
instance sim_ifS [it : SimT Z E tt ft] [i1 : SimS Z E ts sa] [i2 : SimS Z E tu sb] : SimS Z E (tIfS tt ts tu) (aIfS ft sa sb) := ⟨fun r er h kn kr kx =>
  it.sim r er h (fun _ _ _ b g r' h' => by
    cases b with
    | true => exact i1.sim r' (g.er r er) h' (kn.go g) (kr.go g) (kx.go g)
    | false => exact i2.sim r' (g.er r er) h' (kn.go g) (kr.go g) (kx.go g)) (kx.at_ r er)⟩
instance sim_asg {g : TG} {ag : AG} [ia : SimE Z E ta fa] [ig : SimG Z g ag] : SimS Z E (tAsg ta g) (aAsg fa ag) := ⟨fun r er h kn kr kx =>
  ia.sim r er h (fun _ _ _ _ _ g r' v h' => ig.sim r' (g.er r er) v h' (kn.go g)) (kx.at_ r er)⟩
/-! ### targets -/
def agN (i : Nat) : AG := fun w e σ N => N (e.set i (some w)) σ
def agT (n : Nat) (t : List W → Ev → Sto → (Ev → Sto → Prop) → Prop) : AG := fun w e σ N => ∃ ds, w = .d (.tuple ds) ∧ ds.length = n ∧ t (ds.map .d) e σ N
def agNil : List W → Ev → Sto → (Ev → Sto → Prop) → Prop := fun ws e σ N => ws = [] ∧ N e σ
def agCons (g : AG) (t : List W → Ev → Sto → (Ev → Sto → Prop) → Prop) : List W → Ev → Sto → (Ev → Sto → Prop) → Prop := fun ws e σ N => ∃ w r, ws = w :: r ∧ g w e σ (fun e1 σ1 => t r e1 σ1 N)
instance sim_gN {i : Nat} : SimG Z (gName i) (agN i) := ⟨fun r er v h k => k _ _ _ _ _ .refl r (Paired.set (by exact v) i er) h⟩
theorem WR.tup {K : PySem.W.Frag} {ρ : List Addr} {H : Hp} {v : V} {ds : List PyData} (h : WR K ρ H v (.d (.tuple ds))) : ∃ a xs, v = .ref a ∧ TuA H a xs ds ∧ RpAll K ρ H xs ds := by
  cases h with
  | tup h1 h2 => exact ⟨_, _, rfl, h1, h2⟩
instance sim_gT {n : Nat} {t : TGs} {at_ : List W → Ev → Sto → (Ev → Sto → Prop) → Prop} [i1 : SimGs Z t at_] : SimG Z (gTup Z.K n t) (agT n at_) := ⟨fun r er v h k => by
  obtain ⟨ds, rfl, hl, q⟩ := h
  obtain ⟨a, xs, rfl, h1, h2⟩ := v.tup
  exact ⟨a, xs, rfl, .inl h1.rd, by rw [rpAll_len h2]; exact hl, i1.sim r er (rpAll_wrs h2) q k⟩⟩
instance sim_gNil : SimGs Z gNil agNil := ⟨fun r er v h k => by
  obtain ⟨rfl, q⟩ := h
  cases v
  exact ⟨rfl, k _ _ _ _ _ .refl r er q⟩⟩
instance sim_gCons {g : TG} {ag : AG} {t : TGs} {at_ : List W → Ev → Sto → (Ev → Sto → Prop) → Prop} [i1 : SimG Z g ag] [i2 : SimGs Z t at_] : SimGs Z (gCons g t) (agCons ag at_) := ⟨fun r er v h k => by
  obtain ⟨w, ws, rfl, q⟩ := h
  cases v with
  | cons h1 h2 => exact ⟨_, _, rfl, i1.sim r er h1 q fun _ _ _ _ _ g r' er' q' => i2.sim r' er' (g.wrs r h2) q' (k.go g)⟩⟩
def aPar (i j : Nat) (fr : AA) : AS := fun k e σ => fr e σ (fun ws σ1 => ∃ v w, ws = [v, w] ∧ k.nx ((e.set i (some v)).set j (some w)) σ1) (k.ex e)
instance sim_par {i j : Nat} {t : TA} {fr : AA} [ir : SimA Z E t fr] : SimS Z E (tPar i j t) (aPar i j fr) := ⟨fun r er h kn kr kx =>
  ir.sim r er h (fun _ _ _ _ _ g r' v h' => by
    obtain ⟨x, y, rfl, q⟩ := h'
    cases v with
    | cons h1 h2 => cases h2 with
      | cons h2 h3 =>
        cases h3
        exact ⟨_, _, rfl, kn _ _ _ _ _ g r' (Paired.set (by exact h2) j (Paired.set (by exact h1) i (g.er r er))) q⟩) (kx.at_ r er)⟩
/-! ### what is walked -/
abbrev AI := Ev → Sto → (List W → (Sto → Prop) → Sto → Prop) → XQ → Prop
/-- the iterator gives these items, as long as the store is as it has to stay -/
def ItR (Z : Zx) (ρ : List Addr) (H : Hp) (J : It) (items : List W) (stay : Sto → Prop) : Prop := ∀ ρ' σ' H', Go Z.T ρ H ρ' H' → Rel Z.K Z.T ρ' σ' H' → stay σ' →
  (∀ (i : Nat) (w : W), items[i]? = some w → J.go i H' ∧ ∀ x H2, J.yld i H' x H2 → Go Z.T ρ' H' ρ' H2 ∧ Rel Z.K Z.T ρ' σ' H2 ∧ WR Z.K ρ' H2 x w) ∧ J.stop items.length H'
theorem ItR.go {ρ ρ' : List Addr} {H H' : Hp} {J : It} {items : List W} {stay : Sto → Prop} (h : ItR Z ρ H J items stay) (g : Go Z.T ρ H ρ' H') : ItR Z ρ' H' J items stay := fun _ _ _ g' => h _ _ _ (g.trans g')
def KI (Z : Zx) (ρ : List Addr) (H : Hp) (Ra : List W → (Sto → Prop) → Sto → Prop) (R : It → Hp → Prop) : Prop := ∀ ρ' σ' H' J items stay, Go Z.T ρ H ρ' H' → Rel Z.K Z.T ρ' σ' H' → ItR Z ρ' H' J items stay → Ra items stay σ' → R J H'
theorem KI.go {ρ ρ' : List Addr} {H H' : Hp} {Ra : List W → (Sto → Prop) → Sto → Prop} {R : It → Hp → Prop} (k : KI Z ρ H Ra R) (g : Go Z.T ρ H ρ' H') : KI Z ρ' H' Ra R := fun _ _ _ _ _ _ g' => k _ _ _ _ _ _ (g.trans g')
class SimI (Z : Zx) (E : L2.St → XK) (wi : TI) (ai : outParam AI) : Prop where
  sim : ∀ {ρ : List Addr} {σ : Sto} {H : Hp} {s : L2.St} {e : Ev} {Ra : List W → (Sto → Prop) → Sto → Prop} {Ea : XQ} {R : It → Hp → Prop}, Rel Z.K Z.T ρ σ H → ER Z.K ρ H s e → ai e σ Ra Ea → KI Z ρ H Ra R → KX Z ρ H Ea (E s) → wi s H R
/-- a loop over items -/
def aLoop (ag : AG) (body : AS) (stay : Sto → Prop) (k : AK) : List W → Ev → Sto → Prop
  | [], e, σ => stay σ ∧ k.nx e σ
  | w :: r, e, σ => stay σ ∧ ag w e σ (fun e1 σ1 => body { k with nx := aLoop ag body stay k r } e1 σ1)
def aFor (ai : AI) (ag : AG) (body : AS) : AS := fun k e σ => ai e σ (fun items stay σ1 => aLoop ag body stay k items e σ1) (k.ex e)
instance sim_for {wi : TI} {ai : AI} {g : TG} {ag : AG} [ii : SimI Z E wi ai] [ig : SimG Z g ag] [i1 : SimS Z E ts sa] : SimS Z E (tFor wi g ts) (aFor ai ag sa) := ⟨fun {ρ σ H s e k D} r er h kn kr kx =>
  ii.sim r er h (fun ρ1 σ1 H1 J items stay g1 r1 it h1 => by
    refine ⟨fun i m s' H' => m = items.length - i ∧ i ≤ items.length ∧ ∃ ρ' σ' e', Go Z.T ρ1 H1 ρ' H' ∧ Rel Z.K Z.T ρ' σ' H' ∧ ER Z.K ρ' H' s' e' ∧ aLoop ag sa stay k (items.drop i) e' σ',
      ⟨_, rfl, Nat.zero_le _, ρ1, σ1, e, .refl, r1, g1.er r er, h1⟩, ?_⟩
    rintro i m s' H' ⟨rfl, hi, ρ', σ', e', g', r', er', h'⟩
    by_cases hlt : i < items.length
    · rw [List.drop_eq_getElem_cons hlt] at h'
      obtain ⟨st, h'⟩ := h'
      obtain ⟨a1, a2⟩ := (it _ _ _ g' r' st).1 i items[i] (List.getElem?_eq_getElem hlt)
      refine .inr ⟨a1, fun s2 H2 => i + 1 ≤ items.length ∧ ∃ ρ' σ' e', Go Z.T ρ1 H1 ρ' H2 ∧ Rel Z.K Z.T ρ' σ' H2 ∧ ER Z.K ρ' H2 s2 e' ∧ aLoop ag sa stay k (items.drop (i + 1)) e' σ', fun s2 H2 n => ⟨_, by omega, rfl, n.1, n.2⟩, fun x H2 y => ?_⟩
      obtain ⟨g2, r2, v2⟩ := a2 x H2 y
      have g12 := (g1.trans g').trans g2
      refine ig.sim r2 (g2.er r' er') v2 h' fun ρ3 σ3 H3 s3 e3 g3 r3 er3 h3 => ?_
      have g13 := g12.trans g3
      refine i1.sim r3 er3 h3 (fun ρ4 σ4 H4 s4 e4 g4 r4 er4 h4 => ?_) (kr.go g13) (kx.go g13)
      exact ⟨hlt, ρ4, σ4, e4, ((g'.trans g2).trans g3).trans g4, r4, er4, h4⟩
    · have ei : i = items.length := by omega
      subst ei
      rw [List.drop_length] at h'
      obtain ⟨st, h'⟩ := h'
      exact .inl ⟨(it _ _ _ g' r' st).2, kn _ _ _ _ _ (g1.trans g') r' er' h'⟩) (kx.at_ r er)⟩
/-! ### while -/
def aWh (ft : AT) (body : AS) (k : AK) : Nat → Ev → Sto → Prop
  | 0, _, _ => False
  | n + 1, e, σ => ft e σ (fun c σ1 => if c = true then body { k with nx := aWh ft body k n } e σ1 else k.nx e σ1) (k.ex e)
def aWhile (ft : AT) (body : AS) : AS := fun k e σ => ∃ n, aWh ft body k n e σ
instance sim_while [it : SimT Z E tt ft] [i1 : SimS Z E ts sa] : SimS Z E (tWhile tt ts) (aWhile ft sa) := ⟨fun {ρ σ H s e k D} r er h kn kr kx => by
  obtain ⟨n, h⟩ := h
  refine ⟨fun m s' H' => ∃ ρ' σ' e', Go Z.T ρ H ρ' H' ∧ Rel Z.K Z.T ρ' σ' H' ∧ ER Z.K ρ' H' s' e' ∧ aWh ft sa k m e' σ', ⟨n, ρ, σ, e, .refl, r, er, h⟩, ?_⟩
  rintro m s' H' ⟨ρ', σ', e', g', r', er', h'⟩
  cases m with
  | zero => exact h'.elim
  | succ m =>
    refine it.sim r' er' h' (fun _ _ _ b g1 r1 h1 => ?_) ((kx.go g').at_ r' er')
    cases b with
    | false => exact kn _ _ _ _ _ (g'.trans g1) r1 (g1.er r' er') h1
    | true =>
      refine ⟨fun s2 H2 => ∃ ρ' σ' e', Go Z.T ρ H ρ' H2 ∧ Rel Z.K Z.T ρ' σ' H2 ∧ ER Z.K ρ' H2 s2 e' ∧ aWh ft sa k m e' σ', fun s2 H2 n => ⟨m, by omega, n⟩, ?_⟩
      have g2 := g'.trans g1
      exact i1.sim r1 (g1.er r' er') h1 (fun ρ4 σ4 H4 s4 e4 g4 r4 er4 h4 => ⟨ρ4, σ4, e4, g2.trans g4, r4, er4, h4⟩) (kr.go g2) (kx.go g2)⟩
/-! ### defs -/
/-- a def that does as the abstract function does -/
def spA (Z : Zx) (n : Nat) (mf : AF) : Sp := fun vs H Q E => vs.length = n ∧ ∃ ρ σ ws Qa Ea, Rel Z.K Z.T ρ σ H ∧ WRs Z.K ρ H vs ws ∧ mf ws σ Qa Ea ∧ KQ Z ρ H Qa Q ∧ KX Z ρ H Ea E
def aCall (mf : AF) (n : Nat) (fr : AA) : AE := fun e σ Q X => fr e σ (fun ws σ1 => ws.length = n ∧ mf ws σ1 Q X) X
instance sim_call {mf : AF} {n : Nat} {F : XK} {t : TA} {fr : AA} [ir : SimA Z (fun _ => F) t fr] : SimE Z (fun _ => F) (tCall (spA Z n mf) [] F t) (aCall mf n fr) := ⟨fun r er h kq kx =>
  ir.sim r er h (fun ρ' σ' H' vs ws g r' v h' => by
    rw [List.append_nil]
    exact ⟨by rw [Paired.len v]; exact h'.1, ρ', σ', ws, _, _, r', v, h'.2, kq.go g, kx.go g⟩) kx⟩
/-- the slots at a def's start -/
theorem er_none {K : PySem.W.Frag} {ρ : List Addr} {H : Hp} : ∀ n : Nat, ER K ρ H (List.replicate n none) (List.replicate n none)
  | 0 => .nil
  | n + 1 => .cons trivial (er_none n)
theorem er_some {K : PySem.W.Frag} {ρ : List Addr} {H : Hp} : ∀ {vs : List V} {ws : List W}, WRs K ρ H vs ws → ER K ρ H (vs.map some) (ws.map some)
  | _, _, .nil => .nil
  | _, _, .cons h t => .cons h (er_some t)
theorem paired_app {α β : Type} {R : α → β → Prop} : ∀ {l l' : List α} {m m' : List β}, Paired R l m → Paired R l' m' → Paired R (l ++ l') (m ++ m')
  | _, _, _, _, .nil, h => h
  | _, _, _, _, .cons h t, h' => .cons h (paired_app t h')
def aStart (n : Nat) (ws : List W) : Ev := ws.map some ++ List.replicate (n - ws.length) none
/-- a def's body as a function -/
def aFn (n : Nat) (body : AS) : AF := fun ws σ Q X => body { nx := fun _ σ' => Q (.d .none) σ', rt := Q, ex := fun _ => X } (aStart n ws) σ
end
end Aw

/-! Aw4: reading data. -/
namespace Aw
open PySem PySem.Spec PyProof.Rows L2 Mw
def purePs : List (PyData × W) → Option (List (PyData × PyData))
  | [] => some []
  | (k, .d x) :: r => (purePs r).map ((k, x) :: ·)
  | _ :: _ => none
@[simp] theorem purePs_nil : purePs [] = some [] := rfl
@[simp] theorem purePs_d (k x : PyData) (r : List (PyData × W)) : purePs ((k, .d x) :: r) = (purePs r).map ((k, x) :: ·) := rfl
/-- the data that a value is now -/
def dat (σ : Sto) : W → Option PyData
  | .d x => some x
  | .ref i => match σ[i]? with
    | some (.lst ws) => (pures ws).map .list
    | some (.dct _ kvs) => (purePs kvs).map .dict
    | some (.lck _ kvs) => (purePs kvs).map .dict
    | none => none
  | .scr _ => none
@[simp] theorem dat_d (σ : Sto) (x : PyData) : dat σ (.d x) = some x := rfl
/-- .. the thing itself may be a cell -/
def Tp (K : PySem.W.Frag) (ρ : List Addr) (H : Hp) (v : V) : PyData → Prop
  | .list ds => ∃ a xs, v = .ref a ∧ Rd H a (.lst xs) ∧ RpAll K ρ H xs ds
  | .dict ds => ∃ a, v = .ref a ∧ ((∃ hk : List (Key × V), Rd H a (.dK hk) ∧ RpPs K ρ H (hk.map fun p => (kD p.1, p.2)) ds) ∨ ∃ hk : List (List Key × V), Rd H a (.dT hk) ∧ RpPs K ρ H (hk.map fun p => (kT p.1, p.2)) ds)
  | d => Rp K ρ H v d
section
variable {K : PySem.W.Frag} {T : Fx} {ρ : List Addr} {H : Hp} {σ : Sto} {v : V}
theorem Rp.tp : ∀ {d : PyData}, Rp K ρ H v d → Tp K ρ H v d
  | _, .non => Rp.non
  | _, .bl b => Rp.bl b
  | _, .int i => Rp.int i
  | _, .str x => Rp.str x
  | _, .lst h a => ⟨_, _, rfl, h.2, a⟩
  | _, .tup h a => Rp.tup h a
  | _, .dK n h a => ⟨_, rfl, .inl ⟨_, h, a⟩⟩
  | _, .dT n h a => ⟨_, rfl, .inr ⟨_, h, a⟩⟩
theorem purePs_rp : ∀ {vs : List (PyData × V)} {ws : List (PyData × W)} {ds : List (PyData × PyData)}, PRs K ρ H vs ws → purePs ws = some ds → RpPs K ρ H vs ds
  | _, _, ds, .nil, e => by cases e; exact .nil
  | (k', v) :: vs, (k, .d x) :: r, ds, .cons h t, e => by
    obtain ⟨ds', h1, rfl⟩ := Option.map_eq_some_iff.mp (show (purePs r).map ((k, x) :: ·) = some ds from e)
    obtain ⟨h2, h3⟩ := h
    cases (show k' = k from h2)
    exact .cons h3 (purePs_rp t h1)
  | _, (_, .ref _) :: _, _, .cons _ _, e => by cases e
  | _, (_, .scr _) :: _, _, .cons _ _, e => by cases e
theorem dat_tp (r : Rel K T ρ σ H) : ∀ {w : W} {d : PyData}, WR K ρ H v w → dat σ w = some d → Tp K ρ H v d
  | .d x, d, h, e => by cases e; exact Rp.tp h
  | .scr _, _, _, e => by cases e
  | .ref i, d, h, e => by
    obtain ⟨a, ha, rfl⟩ := h
    cases hc : σ[i]? with
    | none => simp [dat, hc] at e
    | some c =>
      have cr := r.cell i a c ha hc
      cases c with
      | lst ws =>
        obtain ⟨ds, h1, rfl⟩ := Option.map_eq_some_iff.mp (show (pures ws).map PyData.list = some d by simpa [dat, hc] using e)
        obtain ⟨xs, e1, e2⟩ := cr
        exact ⟨a, xs, rfl, .inl e1, pures_rp e2 h1⟩
      | dct t kvs =>
        obtain ⟨ds, h1, rfl⟩ := Option.map_eq_some_iff.mp (show (purePs kvs).map PyData.dict = some d by simpa [dat, hc] using e)
        cases t with
        | false =>
          obtain ⟨hk, e1, e2⟩ := cr
          exact ⟨a, rfl, .inl ⟨hk, .inl e1, purePs_rp e2 h1⟩⟩
        | true =>
          obtain ⟨hk, e1, e2⟩ := cr
          exact ⟨a, rfl, .inr ⟨hk, .inl e1, purePs_rp e2 h1⟩⟩
      | lck t kvs =>
        obtain ⟨ds, h1, rfl⟩ := Option.map_eq_some_iff.mp (show (purePs kvs).map PyData.dict = some d by simpa [dat, hc] using e)
        cases t with
        | false =>
          obtain ⟨hk, e1, e2⟩ := cr
          exact ⟨a, rfl, .inl ⟨hk, .inr e1, purePs_rp e2 h1⟩⟩
        | true =>
          obtain ⟨hk, e1, e2⟩ := cr
          exact ⟨a, rfl, .inr ⟨hk, .inr e1, purePs_rp e2 h1⟩⟩
mutual
theorem Rp.dp : ∀ {d : PyData} {v : V}, Rp K ρ H v d → d.canLay0 = true → Dp K H v d
  | _, _, .non, _ => .non
  | _, _, .bl b, _ => .bl b
  | _, _, .int i, _ => .int i
  | _, _, .str x, _ => .str x
  | .list ds, _, .lst h a, e => .lst (.inl h.2) (RpAll.dp a (by simpa [PyData.canLay0] using e))
  | .tuple ds, _, .tup h a, e => .tup (.inl h.rd) (RpAll.dp a (by simpa [PyData.canLay0] using e))
  | .dict ds, _, .dK n h a, e => by simp [PyData.canLay0] at e
  | .dict ds, _, .dT n h a, e => by simp [PyData.canLay0] at e
theorem RpAll.dp : ∀ {ds : List PyData} {vs : List V}, RpAll K ρ H vs ds → PyData.canLayAll0 ds = true → DpAll K H vs ds
  | _, _, .nil, _ => .nil
  | d :: ds, _, .cons h t, e => by
    have e' : d.canLay0 = true ∧ PyData.canLayAll0 ds = true := by simpa [PyData.canLayAll0] using e
    exact .cons (Rp.dp h e'.1) (RpAll.dp t e'.2)
end
theorem Tp.dp : ∀ {d : PyData}, Tp K ρ H v d → d.canLay0 = true → Dp K H v d
  | .none, h, e => Rp.dp h e
  | .bool _, h, e => Rp.dp h e
  | .int _, h, e => Rp.dp h e
  | .str _, h, e => Rp.dp h e
  | .tuple _, h, e => Rp.dp h e
  | .list ds, ⟨a, xs, ev, h, q⟩, e => by subst ev; exact .lst (.inl h) (RpAll.dp q (by simpa [PyData.canLay0] using e))
  | .dict _, _, e => by simp [PyData.canLay0] at e
theorem Tp.int {i : Int} (h : Tp K ρ H v (.int i)) : v = .int i := by
  have h : Rp K ρ H v (.int i) := h
  cases h
  rfl
theorem Tp.str {i : Str} (h : Tp K ρ H v (.str i)) : v = .str i := by
  have h : Rp K ρ H v (.str i) := h
  cases h
  rfl
theorem Tp.bool {i : Bool} (h : Tp K ρ H v (.bool i)) : v = .bl i := by
  have h : Rp K ρ H v (.bool i) := h
  cases h
  rfl
theorem Tp.none (h : Tp K ρ H v .none) : v = .non := by
  have h : Rp K ρ H v .none := h
  cases h
  rfl
theorem Tp.tup {ds : List PyData} (h : Tp K ρ H v (.tuple ds)) : ∃ a xs, v = .ref a ∧ TuA H a xs ds ∧ RpAll K ρ H xs ds := by
  have h : Rp K ρ H v (.tuple ds) := h
  cases h with
  | tup h1 h2 => exact ⟨_, _, rfl, h1, h2⟩
theorem rpAll_app : ∀ {xs ys : List V} {ds es : List PyData}, RpAll K ρ H xs ds → RpAll K ρ H ys es → RpAll K ρ H (xs ++ ys) (ds ++ es)
  | _, _, _, _, .nil, h => h
  | _, _, _, _, .cons h t, h' => .cons h (rpAll_app t h')
theorem rpAll_get : ∀ {xs : List V} {ds : List PyData} {i : Nat} {d : PyData}, RpAll K ρ H xs ds → ds[i]? = some d → ∃ x, xs[i]? = some x ∧ Rp K ρ H x d
  | _, _, _, _, .nil, e => by simp at e
  | _, _, 0, _, .cons r _, e => by simp at e; subst e; exact ⟨_, rfl, r⟩
  | _, _, i + 1, d, .cons _ t, e => by
    obtain ⟨u, h1, h2⟩ := rpAll_get (i := i) (d := d) t (by simpa using e)
    exact ⟨u, by simpa using h1, h2⟩
theorem rpAll_take : ∀ {xs : List V} {ds : List PyData} (n : Nat), RpAll K ρ H xs ds → RpAll K ρ H (xs.take n) (ds.take n)
  | _, _, 0, _ => by simp only [List.take_zero]; exact .nil
  | _, _, n + 1, .nil => by simp only [List.take_nil]; exact .nil
  | _, _, n + 1, .cons h t => by simp only [List.take_succ_cons]; exact .cons h (rpAll_take n t)
theorem rpAll_drop : ∀ {xs : List V} {ds : List PyData} (n : Nat), RpAll K ρ H xs ds → RpAll K ρ H (xs.drop n) (ds.drop n)
  | _, _, 0, h => by simpa using h
  | _, _, n + 1, .nil => by simp only [List.drop_nil]; exact .nil
  | _, _, n + 1, .cons h t => by simp only [List.drop_succ_cons]; exact rpAll_drop n t
end
/-- two-place operations on data -/
def ra2 (f : PyData → PyData → (PyData → Prop) → Prop) : W → W → Sto → QK → Prop := fun a b σ Q => ∃ x y, dat σ a = some x ∧ dat σ b = some y ∧ f x y fun z => Q (.d z) σ
def ra1 (f : PyData → (PyData → Prop) → Prop) : W → Sto → QK → Prop := fun a σ Q => ∃ x, dat σ a = some x ∧ f x fun z => Q (.d z) σ
/-- from a rule by data -/
theorem sim2 {Z : Zx} {r : R2} {f : PyData → PyData → (PyData → Prop) → Prop}
    (h : ∀ {ρ : List Addr} {σ : Sto} {H : Hp} {x y : V} {a b : PyData} {Qa : QK} {Q : VK}, Rel Z.K Z.T ρ σ H → Tp Z.K ρ H x a → Tp Z.K ρ H y b → f a b (fun z => Qa (.d z) σ) → KQ Z ρ H Qa Q → r x y H Q) : SimR2 Z r (ra2 f) :=
  ⟨fun rl v w q k => by
    obtain ⟨x, y, h1, h2, q⟩ := q
    exact h rl (dat_tp rl v h1) (dat_tp rl w h2) q k⟩
end Aw

/-! Aw5: operators on data. -/
namespace Aw
open PySem PySem.Spec PyProof.Rows L2 Mw
theorem OpR.or {X : Cx} {f : Value → Value → Sem Value} {r r' : R2} (h : OpR X f r) (h' : OpR X f r') : OpR X f (fun x y H Q => r x y H Q ∨ r' x y H Q) := by
  intro pins s σ H x y v u Q I rx ry q
  rcases q with q | q
  · exact h pins s σ H x y v u Q I rx ry q
  · exact h' pins s σ H x y v u Q I rx ry q
theorem CallR.or {X : Cx} {f : Value} {r r' : List V → Hp → VK → Prop} (h : CallR X f r) (h' : CallR X f r') : CallR X f (fun xs H Q => r xs H Q ∨ r' xs H Q) := by
  intro pins s σ H xs us Q I rx q
  rcases q with q | q
  · exact h pins s σ H xs us Q I rx q
  · exact h' pins s σ H xs us Q I rx q
section
variable {X : Cx} {K : PySem.W.Frag} {k : Nat}
theorem Room.u66 {A : Around} (r : Room k A) : A.units + 66 < cLine := by have := r.un; omega
theorem Room.u65 {A : Around} (r : Room k A) : A.units + 65 < cLine := by have := r.un; omega
theorem Room.u1 {A : Around} (r : Room k A) : A.units + 1 < cLine := by have := r.un; omega
theorem rd_lst {pins : List (Addr × Obj)} {σ : L2.St} {H : Hp} {s : Shared} {a : Addr} {xs : List V} (I : Inv X pins σ H s) (h : Rd H a (.lst xs)) :
    xs.length ≤ sizeLine ∧ ∃ (its : List Value) (n : Nat), Vals xs its ∧ s.heap.get? a = some { cls := .type "list", data := .seq its.toArray n } := h.ok I.hok
/-! ### + -/
def rCatL : R2 := fun x y H Q => ∃ l b xs zs, x = .ref l ∧ y = .ref b ∧ Rd H l (.lst xs) ∧ Rd H b (.lst zs) ∧ xs.length + zs.length ≤ sizeLine ∧ ∀ p, H p = none → Q (.ref p) (upd H p (.lst (xs ++ zs)))
theorem op_catL : OpR X (binaryOp .Add) rCatL := by
  intro pins s σ H x y v u Q I rx ry h
  obtain ⟨l, b, xs, zs, rfl, rfl, hH, hB, hz, q⟩ := h
  cases rx
  cases ry
  obtain ⟨z, its, n, r, e⟩ := rd_lst I hH
  obtain ⟨z2, its2, n2, r2, e2⟩ := rd_lst I hB
  have h1 := r.length
  have h2 := r2.length
  refine PySem.P.add_list e e2 ?_ (by rw [List.size_toArray, List.size_toArray]; omega)
  have ea : its.toArray ++ its2.toArray = (its ++ its2).toArray := by simp
  rw [ea]
  exact ⟨.ref _, _, I.lnew (t' := s.toks) (r.append r2) (by rw [List.length_append]; omega), rfl, q _ I.fresh⟩
def rAddU (K : PySem.W.Frag) : R2 := fun x y H Q => rI0 (fun i j => .int (i + j)) x y H Q ∨ (∃ i j, x = .str i ∧ y = .str j ∧ i.length + j.length ≤ sizeLine ∧ Q (.str (i ++ j)) H) ∨ rCatL x y H Q ∨ rCatF K x y H Q
theorem op_addU (hK : X.K = K) : OpR X (binaryOp .Add) (rAddU K) := by
  subst hK
  exact op_add.or (op_add_str.or (op_catL.or op_catF))
def addD : PyData → PyData → (PyData → Prop) → Prop
  | .int i, .int j, Q => Q (.int (i + j))
  | .str x, .str y, Q => x.length + y.length ≤ sizeLine ∧ Q (.str (x ++ y))
  | .list xs, .list ys, Q => xs.length + ys.length ≤ sizeLine ∧ Q (.list (xs ++ ys))
  | .tuple xs, .tuple ys, Q => xs.length + ys.length ≤ sizeLine ∧ Q (.tuple (xs ++ ys))
  | _, _, _ => False
variable {Z : Zx}
theorem rpAll_nil {K : PySem.W.Frag} {ρ : List Addr} {H : Hp} {ds : List PyData} (h : RpAll K ρ H [] ds) : ds = [] := by cases h; rfl
instance sim_addU : SimR2 Z (rAddU Z.K) (ra2 addD) := sim2 fun {ρ σ H x y a b Qa Q} rl h1 h2 q k => by
  cases a <;> cases b <;> first | exact q.elim | skip
  · exact .inl ⟨_, _, h1.int, h2.int, k.d .refl rl (Rp.int _) q⟩
  · exact .inr (.inl ⟨_, _, h1.str, h2.str, q.1, k.d .refl rl (Rp.str _) q.2⟩)
  · obtain ⟨a1, xs, rfl, e1, p1⟩ := h1
    obtain ⟨a2, ys, rfl, e2, p2⟩ := h2
    exact .inr (.inr (.inl ⟨_, _, _, _, rfl, rfl, e1, e2, by rw [rpAll_len p1, rpAll_len p2]; exact q.1, fun p n => k.layL rl n (rpAll_app p1 p2) q.2⟩))
  · obtain ⟨a1, xs, rfl, e1, p1⟩ := h1.tup
    obtain ⟨a2, ys, rfl, e2, p2⟩ := h2.tup
    refine .inr (.inr (.inr ⟨_, _, _, _, rfl, rfl, .inl e1.rd, .inl e2.rd, by rw [rpAll_len p1, rpAll_len p2]; exact q.1, fun e => ?_, fun _ e => ?_, fun _ _ => k.layT rl (rpAll_app p1 p2) q.2⟩))
    · subst e
      have e' := rpAll_nil p1
      have q' := q.2
      subst e'
      exact k.d .refl rl (Rp.tup e2 p2) q'
    · subst e
      have e' := rpAll_nil p2
      have q' := q.2
      subst e'
      rw [List.append_nil] at q'
      exact k.d .refl rl (Rp.tup e1 p1) q'
/-! ### ints: - * // % ** and the minus -/
def rSubU : R2 := rI0 fun i j => .int (i - j)
theorem op_subU : OpR X (binaryOp .Sub) rSubU := op_sub
def subD : PyData → PyData → (PyData → Prop) → Prop
  | .int i, .int j, Q => Q (.int (i - j))
  | _, _, _ => False
instance sim_subU : SimR2 Z rSubU (ra2 subD) := sim2 fun {ρ σ H x y a b Qa Q} rl h1 h2 q k => by
  cases a <;> cases b <;> first | exact q.elim | skip
  exact ⟨_, _, h1.int, h2.int, k.d .refl rl (Rp.int _) q⟩
def CMulU (i j : Int) : Prop := CMul i j ∨ CMulW i j
def rMulU : R2 := fun x y H Q => rI CMul (fun i j => .int (i * j)) x y H Q ∨ rI CMulW (fun i j => .int (i * j)) x y H Q ∨ rMulS x y H Q
theorem op_mulU : OpR X (binaryOp .Mult) rMulU := op_mul.or (op_mulW.or op_mulS)
def mulD : PyData → PyData → (PyData → Prop) → Prop
  | .int i, .int j, Q => CMulU i j ∧ Q (.int (i * j))
  | .str z, .int n, Q => 0 ≤ n ∧ n ≤ 1000 ∧ z.length ≤ 1000 ∧ Q (.str (repS z n.toNat))
  | _, _, _ => False
instance sim_mulU : SimR2 Z rMulU (ra2 mulD) := sim2 fun {ρ σ H x y a b Qa Q} rl h1 h2 q k => by
  cases a <;> cases b <;> first | exact q.elim | skip
  · rcases q.1 with c | c
    · exact .inl ⟨_, _, h1.int, h2.int, c, k.d .refl rl (Rp.int _) q.2⟩
    · exact .inr (.inl ⟨_, _, h1.int, h2.int, c, k.d .refl rl (Rp.int _) q.2⟩)
  · exact .inr (.inr ⟨_, _, h1.str, h2.int, q.1, q.2.1, q.2.2.1, k.d .refl rl (Rp.str _) q.2.2.2⟩)
def rFdivU : R2 := fun x y H Q => rI CDiv (fun i j => .int (i / j)) x y H Q ∨ rI CDivW (fun i j => .int (i / j)) x y H Q
theorem op_fdivU : OpR X (binaryOp .FloorDiv) rFdivU := op_fdiv.or op_fdivW
def CDivU (i j : Int) : Prop := CDiv i j ∨ CDivW i j
def fdivD : PyData → PyData → (PyData → Prop) → Prop
  | .int i, .int j, Q => CDivU i j ∧ Q (.int (i / j))
  | _, _, _ => False
instance sim_fdivU : SimR2 Z rFdivU (ra2 fdivD) := sim2 fun {ρ σ H x y a b Qa Q} rl h1 h2 q k => by
  cases a <;> cases b <;> first | exact q.elim | skip
  rcases q.1 with c | c
  · exact .inl ⟨_, _, h1.int, h2.int, c, k.d .refl rl (Rp.int _) q.2⟩
  · exact .inr ⟨_, _, h1.int, h2.int, c, k.d .refl rl (Rp.int _) q.2⟩
def rModU : R2 := rI (fun _ j => 0 < j) fun i j => .int (i % j)
theorem op_modU : OpR X (binaryOp .Mod) rModU := op_mod
def modD : PyData → PyData → (PyData → Prop) → Prop
  | .int i, .int j, Q => 0 < j ∧ Q (.int (i % j))
  | _, _, _ => False
instance sim_modU : SimR2 Z rModU (ra2 modD) := sim2 fun {ρ σ H x y a b Qa Q} rl h1 h2 q k => by
  cases a <;> cases b <;> first | exact q.elim | skip
  exact ⟨_, _, h1.int, h2.int, q.1, k.d .refl rl (Rp.int _) q.2⟩
def rPowU : R2 := rI CPow fun i j => .int (i ^ j.toNat)
theorem op_powU : OpR X (binaryOp .Pow) rPowU := op_pow
def powD : PyData → PyData → (PyData → Prop) → Prop
  | .int i, .int j, Q => CPow i j ∧ Q (.int (i ^ j.toNat))
  | _, _, _ => False
instance sim_powU : SimR2 Z rPowU (ra2 powD) := sim2 fun {ρ σ H x y a b Qa Q} rl h1 h2 q k => by
  cases a <;> cases b <;> first | exact q.elim | skip
  exact ⟨_, _, h1.int, h2.int, q.1, k.d .refl rl (Rp.int _) q.2⟩
def rNegU : V → Hp → VK → Prop := rU fun i => .int (-i)
theorem un_negU : UnR X (unaryOp .USub) rNegU := un_neg
def negD : PyData → (PyData → Prop) → Prop
  | .int i, Q => Q (.int (-i))
  | _, _ => False
instance sim_negU : SimU Z rNegU (ra1 negD) := ⟨fun {ρ σ H x a Qa Q} rl h q k => by
  obtain ⟨d, h1, q⟩ := q
  have t := dat_tp rl h h1
  cases d <;> first | exact q.elim | skip
  exact ⟨_, t.int, k.d .refl rl (Rp.int _) q⟩⟩
/-! ### == and its like -/
def rEqU (K : PySem.W.Frag) : R2 := fun x y H Q => rEq x y H Q ∨ rEqD K x y H Q
def rNeU (K : PySem.W.Frag) : R2 := fun x y H Q => rNe x y H Q ∨ rNeD K x y H Q
theorem op_eqU (hK : X.K = K) (hr : Room k X.A) : OpR X (compareOp .Eq) (rEqU K) := by subst hK; exact op_eq.or (op_eqD hr.units)
theorem op_neU (hK : X.K = K) (hr : Room k X.A) : OpR X (compareOp .NotEq) (rNeU K) := by subst hK; exact op_ne.or (op_neD hr.units)
def eqD : PyData → PyData → Prop × Bool
  | .int i, .int j => (True, decide (i = j))
  | .str i, .str j => (True, decide (i = j))
  | .bool i, .bool j => (True, decide (i = j))
  | a, b => (SeqAt.shaped a = true ∧ SeqAt.shaped b = true, PyData.eqv a b)
def eqF (neg : Bool) : PyData → PyData → (PyData → Prop) → Prop := fun a b Q => (eqD a b).1 ∧ Q (.bool (if neg then !(eqD a b).2 else (eqD a b).2))
theorem sc_int (i j : Int) : scal (.int i) (.int j) = true := rfl
theorem sc_str (i j : Str) : scal (.str i) (.str j) = true := rfl
theorem sc_bl (i j : Bool) : scal (.bl i) (.bl j) = true := rfl
theorem de_int (i j : Int) : decide (V.int i = V.int j) = decide (i = j) := by simp
theorem de_str (i j : Str) : decide (V.str i = V.str j) = decide (i = j) := by simp
theorem de_bl (i j : Bool) : decide (V.bl i = V.bl j) = decide (i = j) := by simp
theorem sh_lay {d : PyData} (h : SeqAt.shaped d = true) : d.canLay0 = true := SeqAt.canLay_of_shaped h
theorem eq_sim (neg : Bool) {ρ : List Addr} {σ : Sto} {H : Hp} {x y : V} {a b : PyData} {Qa : QK} {Q : VK} (rl : Rel Z.K Z.T ρ σ H) (h1 : Tp Z.K ρ H x a) (h2 : Tp Z.K ρ H y b) (q : eqF neg a b (fun z => Qa (.d z) σ)) (k : KQ Z ρ H Qa Q) :
    (scal x y = true ∧ Q (.bl (if neg then !decide (x = y) else decide (x = y))) H) ∨ (∃ d e, Dp Z.K H x d ∧ Dp Z.K H y e ∧ SeqAt.shaped d = true ∧ SeqAt.shaped e = true ∧ Q (.bl (if neg then !PyData.eqv d e else PyData.eqv d e)) H) := by
  obtain ⟨q1, q2⟩ := q
  have gen : SeqAt.shaped a = true ∧ SeqAt.shaped b = true → Qa (.d (.bool (if neg then !PyData.eqv a b else PyData.eqv a b))) σ → (∃ d e, Dp Z.K H x d ∧ Dp Z.K H y e ∧ SeqAt.shaped d = true ∧ SeqAt.shaped e = true ∧ Q (.bl (if neg then !PyData.eqv d e else PyData.eqv d e)) H) :=
    fun z z' => ⟨a, b, h1.dp (sh_lay z.1), h2.dp (sh_lay z.2), z.1, z.2, k.d .refl rl (Rp.bl _) z'⟩
  cases a <;> cases b <;> first
    | (refine .inl ?_; rw [h1.int, h2.int, de_int]; exact ⟨rfl, k.d .refl rl (Rp.bl _) q2⟩)
    | (refine .inl ?_; rw [h1.str, h2.str, de_str]; exact ⟨rfl, k.d .refl rl (Rp.bl _) q2⟩)
    | (refine .inl ?_; rw [h1.bool, h2.bool, de_bl]; exact ⟨rfl, k.d .refl rl (Rp.bl _) q2⟩)
    | exact .inr (gen q1 q2)
instance sim_eqU : SimR2 Z (rEqU Z.K) (ra2 (eqF false)) := sim2 fun rl h1 h2 q k => eq_sim false rl h1 h2 q k
instance sim_neU : SimR2 Z (rNeU Z.K) (ra2 (eqF true)) := sim2 fun rl h1 h2 q k => eq_sim true rl h1 h2 q k
/-! ### < and its like -/
def okLt (a b : PyData) : Prop := PySem.W.alike a b = true ∧ a ≠ .none ∧ a.canLay0 = true ∧ b.canLay0 = true ∧ a.depth ≤ 60
/-- by data: f a b is told -/
def rOrd (K : PySem.W.Frag) (f : PyData → PyData → Bool) : R2 := fun x y H Q => ∃ d e, Dp K H x d ∧ Dp K H y e ∧ okLt d e ∧ Q (.bl (f d e)) H
def fLt (a b : PyData) : Bool := PySem.W.dataLt a b
def fGt (a b : PyData) : Bool := PySem.W.dataLt b a
def fLe (a b : PyData) : Bool := !PySem.W.dataLt b a
def fGe (a b : PyData) : Bool := !PySem.W.dataLt a b
theorem ord_of {op : CmpOp} {f : PyData → PyData → Bool} (hr : Room k X.A)
    (rule : ∀ {s : Shared} {a b : Value} {da db : PyData} {as bs : List Addr} {Q : Value → Shared → Prop}, Reads s.heap a da as → Reads s.heap b db bs → PySem.W.alike da db = true → da ≠ .none → X.A.units + min da.depth db.depth < cLine → Q (.bool (f da db)) s →
      wpAny (model X.prog X.w) X.A (compareOp op a b) Q X.xe s) : OpR X (compareOp op) (rOrd X.K f) := by
  intro pins s σ H x y v u Q I rx ry h
  obtain ⟨d, e, hd, he, ⟨ha, hn, _, _, hp⟩, q⟩ := h
  obtain ⟨as, ra⟩ := Dp.reads I _ x v hd rx
  obtain ⟨bs, rb⟩ := Dp.reads I _ y u he ry
  refine rule ra rb ha hn ?_ ⟨.bl _, H, I, rfl, q⟩
  have := hr.un
  omega
theorem op_ltU (hK : X.K = K) (hr : Room k X.A) : OpR X (compareOp .Lt) (rOrd K fLt) := by subst hK; exact ord_of hr fun a b c d e f => PySem.W.lt_data a b c d e f
theorem op_leU (hK : X.K = K) (hr : Room k X.A) : OpR X (compareOp .LtE) (rOrd K fLe) := by subst hK; exact ord_of hr fun a b c d e f => PySem.W.le_data a b c d e f
theorem op_gtU (hK : X.K = K) (hr : Room k X.A) : OpR X (compareOp .Gt) (rOrd K fGt) := by subst hK; exact ord_of hr fun a b c d e f => PySem.W.gt_data a b c d e f
theorem op_geU (hK : X.K = K) (hr : Room k X.A) : OpR X (compareOp .GtE) (rOrd K fGe) := by subst hK; exact ord_of hr fun a b c d e f => PySem.W.ge_data a b c d e f
def ordF (f : PyData → PyData → Bool) : PyData → PyData → (PyData → Prop) → Prop := fun a b Q => okLt a b ∧ Q (.bool (f a b))
instance sim_ord {f : PyData → PyData → Bool} : SimR2 Z (rOrd Z.K f) (ra2 (ordF f)) := sim2 fun rl h1 h2 q k =>
  ⟨_, _, h1.dp q.1.2.2.1, h2.dp q.1.2.2.2.1, q.1, k.d .refl rl (Rp.bl _) q.2⟩
theorem okLt_int (i j : Int) : okLt (.int i) (.int j) := ⟨by simp [PySem.W.alike], by nofun, by simp [PyData.canLay0], by simp [PyData.canLay0], by simp [PyData.depth]⟩
@[simp] theorem okLt_int' (i j : Int) : okLt (.int i) (.int j) = True := eq_true (okLt_int i j)
@[simp] theorem fLt_int (i j : Int) : fLt (.int i) (.int j) = decide (i < j) := PySem.W.dataLt_int i j
@[simp] theorem fGt_int (i j : Int) : fGt (.int i) (.int j) = decide (j < i) := PySem.W.dataLt_int j i
@[simp] theorem fLe_int (i j : Int) : fLe (.int i) (.int j) = decide (i ≤ j) := by
  unfold fLe
  rw [PySem.W.dataLt_int]
  by_cases h : j < i
  · rw [decide_eq_true h, decide_eq_false (by omega)]; rfl
  · rw [decide_eq_false h, decide_eq_true (by omega)]; rfl
@[simp] theorem fGe_int (i j : Int) : fGe (.int i) (.int j) = decide (j ≤ i) := by
  unfold fGe
  rw [PySem.W.dataLt_int]
  by_cases h : i < j
  · rw [decide_eq_true h, decide_eq_false (by omega)]; rfl
  · rw [decide_eq_false h, decide_eq_true (by omega)]; rfl
/-! ### is None -/
def isNo : W → Bool
  | .d .none => true
  | _ => false
def aIsN (fa : AE) : AE := fun e σ Q X => fa e σ (fun x σ1 => Q (.d (.bool (isNo x))) σ1) X
def aNotN (fa : AE) : AE := fun e σ Q X => fa e σ (fun x σ1 => Q (.d (.bool (!isNo x))) σ1) X
theorem isn_eq {K : PySem.W.Frag} {ρ : List Addr} {H : Hp} {v : V} : ∀ {w : W}, WR K ρ H v w → decide (v = .non) = isNo w
  | .d .none, h => by cases h; rfl
  | .d (.bool _), h => by cases h; rfl
  | .d (.int _), h => by cases h; rfl
  | .d (.str _), h => by cases h; rfl
  | .d (.list _), h => by cases h; rfl
  | .d (.tuple _), h => by cases h; rfl
  | .d (.dict _), h => by cases h <;> rfl
  | .ref _, ⟨a, _, e⟩ => by rw [e]; rfl
  | .scr _, ⟨a, e, _⟩ => by rw [e]; rfl
variable {E : L2.St → XK} {ta : TE} {fa : AE}
instance sim_isN [ia : SimE Z E ta fa] : SimE Z E (tIsN ta) (aIsN fa) := ⟨fun r er h k kx =>
  ia.sim r er h (fun _ _ _ _ _ g1 r1 v1 h1 => by rw [isn_eq v1]; exact k.d g1 r1 (Rp.bl _) h1) kx⟩
instance sim_notN [ia : SimE Z E ta fa] : SimE Z E (tNotN ta) (aNotN fa) := ⟨fun r er h k kx =>
  ia.sim r er h (fun _ _ _ _ w g1 r1 v1 h1 => by
    rw [isn_eq v1]; exact k.d g1 r1 (Rp.bl _) h1) kx⟩
end
end Aw

/-! Aw6: dicts, places, membership, len. -/
namespace Aw
open PySem PySem.Spec PyProof.Rows L2 Mw
section
variable {α : Type}
open Classical in
noncomputable def dget (kvs : List (PyData × α)) (k : PyData) : Option α := (kvs.find? fun p => decide (p.1 = k)).map (·.2)
open Classical in
noncomputable def dput (kvs : List (PyData × α)) (k : PyData) (v : α) : List (PyData × α) :=
  if (kvs.any fun p => decide (p.1 = k)) = true then kvs.map (fun p => if p.1 = k then (p.1, v) else p) else kvs ++ [(k, v)]
theorem dget_nil (k : PyData) : dget ([] : List (PyData × α)) k = none := rfl
theorem dget_pos {p : PyData × α} {r : List (PyData × α)} {k : PyData} (e : p.1 = k) : dget (p :: r) k = some p.2 := by simp [dget, List.find?_cons, e]
theorem dget_neg {p : PyData × α} {r : List (PyData × α)} {k : PyData} (e : ¬ p.1 = k) : dget (p :: r) k = dget r k := by simp [dget, List.find?_cons, e]
open Classical in
theorem dget_any (k : PyData) : ∀ kvs : List (PyData × α), (kvs.any fun p => decide (p.1 = k)) = (dget kvs k).isSome
  | [] => rfl
  | p :: r => by
    by_cases h : p.1 = k
    · rw [List.any_cons, dget_pos h, decide_eq_true h]; rfl
    · rw [List.any_cons, dget_neg h, decide_eq_false h, Bool.false_or, dget_any k r]
open Classical in
theorem dput_new {kvs : List (PyData × α)} {k : PyData} {v : α} (h : dget kvs k = none) : dput kvs k v = kvs ++ [(k, v)] := by
  unfold dput
  rw [dget_any, h]
  rfl
open Classical in
theorem dput_old {kvs : List (PyData × α)} {k : PyData} {v w : α} (h : dget kvs k = some w) : dput kvs k v = kvs.map fun p => if p.1 = k then (p.1, v) else p := by
  unfold dput
  rw [dget_any, h]
  rfl
open Classical in
theorem dget_snoc (k j : PyData) (y : α) : ∀ kvs : List (PyData × α), dget kvs k = none → dget (kvs ++ [(k, y)]) j = if j = k then some y else dget kvs j
  | [], _ => by
    by_cases h : j = k
    · rw [if_pos h]; exact dget_pos h.symm
    · rw [if_neg h]; exact dget_neg (fun z => h z.symm)
  | p :: r, h => by
    have hp : ¬ p.1 = k := fun z => by rw [dget_pos z] at h; cases h
    rw [dget_neg hp] at h
    by_cases hj : p.1 = j
    · rw [List.cons_append, dget_pos hj, if_neg (fun z => hp (hj.trans z)), dget_pos hj]
    · rw [List.cons_append, dget_neg hj, dget_snoc k j y r h, dget_neg hj]
open Classical in
theorem dget_map (k j : PyData) (y : α) : ∀ kvs : List (PyData × α), dget (kvs.map fun p => if p.1 = k then (p.1, y) else p) j = (dget kvs j).map fun x => if j = k then y else x
  | [] => rfl
  | p :: r => by
    have hk : (if p.1 = k then (p.1, y) else p).1 = p.1 := by split <;> rfl
    by_cases hj : p.1 = j
    · rw [List.map_cons, dget_pos (hk.trans hj), dget_pos hj, Option.map_some]
      by_cases h : p.1 = k
      · rw [if_pos h, if_pos (hj.symm.trans h)]
      · rw [if_neg h, if_neg (fun z => h (hj.trans z))]
    · rw [List.map_cons, dget_neg (fun z => hj (hk.symm.trans z)), dget_neg hj, dget_map k j y r]
open Classical in
theorem dget_dput (kvs : List (PyData × α)) (k j : PyData) (y : α) : dget (dput kvs k y) j = if j = k then some y else dget kvs j := by
  cases h : dget kvs k with
  | none => rw [dput_new h, dget_snoc k j y kvs h]
  | some w =>
    rw [dput_old h, dget_map]
    by_cases e : j = k
    · subst e; rw [h, if_pos rfl]; simp
    · rw [if_neg e]; simp [e]
theorem length_dput (kvs : List (PyData × α)) (k : PyData) (v : α) : (dput kvs k v).length ≤ kvs.length + 1 := by
  unfold dput
  split
  · rw [List.length_map]; omega
  · rw [List.length_append]; exact Nat.le_refl _
/-- the keys -/
def keys (kvs : List (PyData × α)) : List PyData := kvs.map (·.1)
theorem keys_dput_new {kvs : List (PyData × α)} {k : PyData} {v : α} (h : dget kvs k = none) : keys (dput kvs k v) = keys kvs ++ [k] := by
  rw [dput_new h]; simp [keys]
open Classical in
theorem keys_dput_old {kvs : List (PyData × α)} {k : PyData} {v w : α} (h : dget kvs k = some w) : keys (dput kvs k v) = keys kvs := by
  rw [dput_old h]
  simp only [keys, List.map_map]
  refine List.map_congr_left fun p _ => ?_
  show (if p.1 = k then (p.1, v) else p).1 = p.1
  split <;> rfl
end
theorem kD_inj : ∀ {a b : Key}, kD a = kD b → a = b
  | .inl i, .inl j, h => by cases h; rfl
  | .inr i, .inr j, h => by cases h; rfl
  | .inl i, .inr j, h => by cases h
  | .inr i, .inl j, h => by cases h
theorem kT_inj {a b : List Key} (h : kT a = kT b) : a = b := by
  unfold kT at h
  injection h with h
  exact List.map_inj_right (fun x y => kD_inj) |>.mp h
section
variable {K : PySem.W.Frag} {ρ : List Addr} {H : Hp} {κ : Type} [DecidableEq κ] {f : κ → PyData}
def ORw (K : PySem.W.Frag) (ρ : List Addr) (H : Hp) : Option V → Option W → Prop
  | some v, some w => WR K ρ H v w
  | none, none => True
  | _, _ => False
theorem prs_get (inj : ∀ a b, f a = f b → a = b) (k : κ) : ∀ {hk : List (κ × V)} {kvs : List (PyData × W)}, PRs K ρ H (hk.map fun p => (f p.1, p.2)) kvs → ORw K ρ H (valV hk k) (dget kvs (f k))
  | [], _, h => by
    cases h
    exact True.intro
  | p :: hk, _, h => by
    cases h with
    | @cons a b as bs h t =>
      obtain ⟨h1, h2⟩ := h
      by_cases e : p.1 = k
      · rw [valV_pos e, dget_pos (by rw [← h1, ← e])]
        exact h2
      · rw [valV_neg e, dget_neg (fun z => e (inj _ _ (h1.trans z)))]
        exact prs_get inj k t
theorem prs_len : ∀ {hk : List (κ × V)} {kvs : List (PyData × W)}, PRs K ρ H (hk.map fun p => (f p.1, p.2)) kvs → hk.length = kvs.length := fun h => by
  have := Paired.len h
  rwa [List.length_map] at this
theorem prs_map (inj : ∀ a b, f a = f b → a = b) (k : κ) {v : V} {w : W} (hv : WR K ρ H v w) : ∀ {hk : List (κ × V)} {kvs : List (PyData × W)}, PRs K ρ H (hk.map fun p => (f p.1, p.2)) kvs →
    PRs K ρ H ((hk.map fun kv => if kv.1 = k then (kv.1, v) else kv).map fun p => (f p.1, p.2)) (kvs.map (open Classical in fun p => if p.1 = f k then (p.1, w) else p))
  | [], _, h => by
    cases h
    exact .nil
  | p :: hk, _, h => by
    cases h with
    | @cons a b as bs h t =>
      obtain ⟨h1, h2⟩ := h
      simp only [List.map_cons]
      refine .cons ?_ (prs_map inj k hv t)
      by_cases e : p.1 = k
      · rw [if_pos e, if_pos (by rw [← h1, ← e])]
        exact ⟨h1, hv⟩
      · rw [if_neg e, if_neg (fun z => e (inj _ _ (h1.trans z)))]
        exact ⟨h1, h2⟩
theorem prs_put (inj : ∀ a b, f a = f b → a = b) (k : κ) {v : V} {w : W} (hv : WR K ρ H v w) {hk : List (κ × V)} {kvs : List (PyData × W)} (h : PRs K ρ H (hk.map fun p => (f p.1, p.2)) kvs) :
    PRs K ρ H ((putK hk k v).map fun p => (f p.1, p.2)) (dput kvs (f k) w) := by
  have g := prs_get inj k h
  cases h1 : valV hk k with
  | none =>
    rw [h1] at g
    cases h2 : dget kvs (f k) with
    | some y => rw [h2] at g; exact g.elim
    | none =>
      rw [dput_new h2]
      unfold putK
      rw [valV_any, h1]
      show PRs K ρ H ((hk ++ [(k, v)]).map fun p => (f p.1, p.2)) _
      rw [List.map_append]
      exact paired_app h (.cons ⟨rfl, hv⟩ .nil)
  | some x =>
    rw [h1] at g
    cases h2 : dget kvs (f k) with
    | none => rw [h2] at g; exact g.elim
    | some y =>
      rw [dput_old h2]
      unfold putK
      rw [valV_any, h1]
      exact prs_map inj k hv h
/-- data pairs are pairs -/
theorem rpPs_prs : ∀ {vs : List (PyData × V)} {ds : List (PyData × PyData)}, RpPs K ρ H vs ds → PRs K ρ H vs (ds.map fun p => (p.1, .d p.2))
  | _, _, .nil => .nil
  | _, _, .cons h t => .cons ⟨rfl, h⟩ (rpPs_prs t)
end
/-! ### keys -/
/-- a key of the first kind: a number, a text -/
def isK : PyData → Bool
  | .int _ => true
  | .str _ => true
  | _ => false
def isKT : PyData → Bool
  | .tuple ds => ds.all isK
  | _ => false
theorem isK_of : ∀ {d : PyData}, isK d = true → ∃ k, d = kD k
  | .int i, _ => ⟨.inl i, rfl⟩
  | .str i, _ => ⟨.inr i, rfl⟩
theorem isKs_of : ∀ {ds : List PyData}, ds.all isK = true → ∃ ks : List Key, ds = ks.map kD
  | [], _ => ⟨[], rfl⟩
  | d :: ds, h => by
    rw [List.all_cons, Bool.and_eq_true] at h
    obtain ⟨k, rfl⟩ := isK_of h.1
    obtain ⟨ks, rfl⟩ := isKs_of h.2
    exact ⟨k :: ks, rfl⟩
theorem isKT_of : ∀ {d : PyData}, isKT d = true → ∃ ks, d = kT ks
  | .tuple ds, h => by
    obtain ⟨ks, rfl⟩ := isKs_of h
    exact ⟨ks, rfl⟩
section
variable {K : PySem.W.Frag} {T : Fx} {ρ : List Addr} {H : Hp} {σ : Sto} {v : V}
theorem rp_key : ∀ {k : Key}, Rp K ρ H v (kD k) → v = kV k
  | .inl i, h => by cases h; rfl
  | .inr i, h => by cases h; rfl
theorem rp_keys : ∀ {ks : List Key} {xs : List V}, RpAll K ρ H xs (ks.map kD) → xs = ks.map kV
  | [], _, h => by cases h; rfl
  | k :: ks, _, h => by
    cases h with
    | cons h t => rw [rp_key h, rp_keys t]; rfl
theorem keys_norow (ks : List Key) : isRow (ks.map kD) = false := by
  cases ks with
  | nil => rfl
  | cons k r => cases k <;> rfl
theorem rp_keyT {ks : List Key} (h : Rp K ρ H v (kT ks)) : ∃ b, v = .ref b ∧ H b = some (.tup (ks.map kV)) := by
  have h : Rp K ρ H v (.tuple (ks.map kD)) := h
  cases h with
  | tup h1 h2 => exact ⟨_, rfl, by rw [← rp_keys h2]; exact h1.plain (keys_norow ks)⟩
theorem tp_key {k : Key} (h : Tp K ρ H v (kD k)) : v = kV k := by
  cases k <;> exact rp_key h
theorem tp_keyT {ks : List Key} (h : Tp K ρ H v (kT ks)) : ∃ b, v = .ref b ∧ H b = some (.tup (ks.map kV)) := rp_keyT h
end
end Aw

/-! Aw7: what dicts are asked; in; places. -/
namespace Aw
open PySem PySem.Spec PyProof.Rows L2 Mw
/-- what the dict at a holds at y, an empty one of either kind -/
def DG (H : Hp) (a : Addr) (y : V) (r : Option V) : Prop :=
  DGet H a y r ∨ (r = none ∧ ((∃ (k : List Key) (b : Addr), Rd H a (.dK []) ∧ y = .ref b ∧ H b = some (.tup (k.map kV))) ∨ ∃ k : Key, Rd H a (.dT []) ∧ y = kV k))
section
variable {X : Cx} {pins : List (Addr × Obj)} {σ : L2.St} {H : Hp} {s : Shared} {a : Addr} {y v : V} {u r : Value} {o : Option V} {A : Around} {E : Value → Shared → Prop}
theorem dk_dt {P : Program} {w : World} {h : Heap} {a : Addr} (d : h.DictOf (mixKind P w) a []) : h.DictOfH (tupleKind (mixKind P w)) a [] := by
  obtain ⟨o, es, ep, h1, h2, h3, h4, h5, h6⟩ := d
  refine ⟨o, es, ep, h1, h2, h3, ?_, (fun x hx => by cases hx), by simp⟩
  generalize es.toList = l at h5
  cases h5
  rfl
theorem dt_dk {P : Program} {w : World} {h : Heap} {a : Addr} (d : h.DictOfH (tupleKind (mixKind P w)) a []) : h.DictOf (mixKind P w) a [] := by
  obtain ⟨o, es, ep, h1, h2, h3, h4, h5, h6⟩ := d
  have e : es = #[] := by
    have : es.toList = [] := h4
    exact Array.toList_eq_nil_iff.mp this
  subst e
  exact ⟨o, #[], ep, h1, h2, h3, (fun i hi => by simp at hi), .nil, by simp⟩
theorem dg_in {Q : Value → Shared → Prop} (hu : A.units + 1 < cLine) (I : Inv X pins σ H s) (g : DG H a y o) (ry : RelV y u) (h : ∀ s', Inv X pins σ H s' → Q (.bool o.isSome) s') :
    wpAny (model X.prog X.w) A (compareOp .In u (.ref a)) Q E s := by
  rcases g with g | ⟨rfl, ⟨k, b, e, ey, eb⟩ | ⟨k, e, ey⟩⟩
  · exact d_in hu I g ry h
  · subst ey
    cases (show u = Value.ref b from ry)
    obtain ⟨z, hd, vs, rel, dd⟩ := dk_rd I.hok e
    cases rel
    exact wpAny_in_heap (tupleKind_room_in1 hu) (key_of I.hok eb) hd (dk_dt dd) (h _ (I.tok _))
  · subst ey
    obtain ⟨z, hd, xs, rel, dd⟩ := dt_rd I.hok e
    cases rel
    exact wpAny_in_of (kV_is ry) hd (dt_dk dd).mapOf (h _ (I.tok _))
theorem dg_notIn {Q : Value → Shared → Prop} (hu : A.units + 1 < cLine) (I : Inv X pins σ H s) (g : DG H a y o) (ry : RelV y u) (h : ∀ s', Inv X pins σ H s' → Q (.bool (!o.isSome)) s') :
    wpAny (model X.prog X.w) A (compareOp .NotIn u (.ref a)) Q E s := by
  rcases g with g | ⟨rfl, ⟨k, b, e, ey, eb⟩ | ⟨k, e, ey⟩⟩
  · exact d_notIn hu I g ry h
  · subst ey
    cases (show u = Value.ref b from ry)
    obtain ⟨z, hd, vs, rel, dd⟩ := dk_rd I.hok e
    cases rel
    exact wpAny_notIn_heap (tupleKind_room_in1 hu) (key_of I.hok eb) hd (dk_dt dd) (h _ (I.tok _))
  · subst ey
    obtain ⟨z, hd, xs, rel, dd⟩ := dt_rd I.hok e
    cases rel
    exact wpAny_notIn_of (kV_is ry) hd (dt_dk dd).mapOf (h _ (I.tok _))
end
/-! ### the pairs of a dict -/
def prsOf (σ : Sto) : W → Option (List (PyData × W))
  | .d (.dict ds) => some (ds.map fun p => (p.1, .d p.2))
  | .ref i => match σ[i]? with
    | some (.dct _ kvs) => some kvs
    | some (.lck _ kvs) => some kvs
    | _ => none
  | _ => none
def seqOf (σ : Sto) (w : W) : Option (List PyData) := match dat σ w with
  | some (.list ys) => some ys
  | some (.tuple ys) => some ys
  | _ => none
/-- a key may be asked: the keys there are of its kind -/
def keyC (kvs : List (PyData × W)) (k : PyData) : Prop := (isK k = true ∧ ∀ p ∈ kvs, isK p.1 = true) ∨ (isKT k = true ∧ ∀ p ∈ kvs, isKT p.1 = true)
section
variable {K : PySem.W.Frag} {T : Fx} {ρ : List Addr} {H : Hp} {σ : Sto} {v x : V}
theorem prs_keys {κ : Type} {f : κ → PyData} {φ : PyData → Bool} : ∀ {hk : List (κ × V)} {kvs : List (PyData × W)}, PRs K ρ H (hk.map fun p => (f p.1, p.2)) kvs → (∀ p ∈ kvs, φ p.1 = true) → (∀ a, φ (f a) = false) → hk = [] ∧ kvs = []
  | [], _, h, _, _ => by cases h; exact ⟨rfl, rfl⟩
  | p :: hk, _, h, h1, h2 => by
    cases h with
    | @cons a b as bs h t =>
      have := h1 b (by simp)
      rw [← h.1] at this
      rw [h2 p.1] at this
      cases this
theorem isK_kT (ks : List Key) : isK (kT ks) = false := rfl
theorem isKT_kD (k : Key) : isKT (kD k) = false := by cases k <;> rfl
theorem dg_of {a : Addr} {kvs : List (PyData × W)} {d : PyData} (h : (∃ hk : List (Key × V), Rd H a (.dK hk) ∧ PRs K ρ H (hk.map fun p => (kD p.1, p.2)) kvs) ∨ ∃ hk : List (List Key × V), Rd H a (.dT hk) ∧ PRs K ρ H (hk.map fun p => (kT p.1, p.2)) kvs)
    (hc : keyC kvs d) (t : Tp K ρ H x d) : ∃ o, DG H a x o ∧ ORw K ρ H o (dget kvs d) ∧ (o.isSome = true → DGet H a x o) := by
  rcases h with ⟨hk, r, p⟩ | ⟨hk, r, p⟩
  · rcases hc with ⟨c1, c2⟩ | ⟨c1, c2⟩
    · obtain ⟨k, rfl⟩ := isK_of c1
      have g : DGet H a x (valV hk k) := .inl ⟨hk, k, r, tp_key t, rfl⟩
      exact ⟨_, .inl g, prs_get (fun _ _ => kD_inj) k p, fun _ => g⟩
    · obtain ⟨e1, e2⟩ := prs_keys p c2 isKT_kD
      subst e1 e2
      obtain ⟨ks, rfl⟩ := isKT_of c1
      obtain ⟨b, e3, e4⟩ := tp_keyT t
      exact ⟨none, .inr ⟨rfl, .inl ⟨ks, b, r, e3, e4⟩⟩, True.intro, fun z => by cases z⟩
  · rcases hc with ⟨c1, c2⟩ | ⟨c1, c2⟩
    · obtain ⟨e1, e2⟩ := prs_keys p c2 isK_kT
      subst e1 e2
      obtain ⟨k, rfl⟩ := isK_of c1
      exact ⟨none, .inr ⟨rfl, .inr ⟨k, r, tp_key t⟩⟩, True.intro, fun z => by cases z⟩
    · obtain ⟨ks, rfl⟩ := isKT_of c1
      obtain ⟨b, e3, e4⟩ := tp_keyT t
      have g : DGet H a x (valV hk ks) := .inr ⟨hk, ks, b, r, e3, e4, rfl⟩
      exact ⟨_, .inl g, prs_get (fun _ _ => kT_inj) ks p, fun _ => g⟩
theorem prsOf_rd (r : Rel K T ρ σ H) : ∀ {w : W} {kvs : List (PyData × W)}, WR K ρ H v w → prsOf σ w = some kvs →
    ∃ a, v = .ref a ∧ ((∃ hk : List (Key × V), Rd H a (.dK hk) ∧ PRs K ρ H (hk.map fun p => (kD p.1, p.2)) kvs) ∨ ∃ hk : List (List Key × V), Rd H a (.dT hk) ∧ PRs K ρ H (hk.map fun p => (kT p.1, p.2)) kvs)
  | .d (.dict ds), kvs, h, e => by
    cases e
    have h : Rp K ρ H v (.dict ds) := h
    cases h with
    | dK n h1 h2 => exact ⟨_, rfl, .inl ⟨_, h1, rpPs_prs h2⟩⟩
    | dT n h1 h2 => exact ⟨_, rfl, .inr ⟨_, h1, rpPs_prs h2⟩⟩
  | .ref i, kvs, h, e => by
    obtain ⟨a, ha, rfl⟩ := h
    cases hc : σ[i]? with
    | none => simp [prsOf, hc] at e
    | some c =>
      have cr := r.cell i a c ha hc
      cases c with
      | lst ws => simp [prsOf, hc] at e
      | dct t kv =>
        have e' : kv = kvs := by simpa [prsOf, hc] using e
        subst e'
        cases t with
        | false =>
          obtain ⟨hk, e1, e2⟩ := cr
          exact ⟨a, rfl, .inl ⟨hk, .inl e1, e2⟩⟩
        | true =>
          obtain ⟨hk, e1, e2⟩ := cr
          exact ⟨a, rfl, .inr ⟨hk, .inl e1, e2⟩⟩
      | lck t kv =>
        have e' : kv = kvs := by simpa [prsOf, hc] using e
        subst e'
        cases t with
        | false =>
          obtain ⟨hk, e1, e2⟩ := cr
          exact ⟨a, rfl, .inl ⟨hk, .inr e1, e2⟩⟩
        | true =>
          obtain ⟨hk, e1, e2⟩ := cr
          exact ⟨a, rfl, .inr ⟨hk, .inr e1, e2⟩⟩
  | .d .none, _, _, e => by cases e
  | .d (.bool _), _, _, e => by cases e
  | .d (.int _), _, _, e => by cases e
  | .d (.str _), _, _, e => by cases e
  | .d (.list _), _, _, e => by cases e
  | .d (.tuple _), _, _, e => by cases e
  | .scr _, _, _, e => by cases e
theorem ORw.isSome : ∀ {o : Option V} {w : Option W}, ORw K ρ H o w → o.isSome = w.isSome
  | some _, some _, _ => rfl
  | none, none, _ => rfl
end
/-! ### in -/
def rInU (K : PySem.W.Frag) (neg : Bool) : R2 := fun x y H Q => (∃ a o, y = .ref a ∧ DG H a x o ∧ Q (.bl (if neg then !o.isSome else o.isSome)) H) ∨
  (∃ d ds, Dp K H x d ∧ (Dp K H y (.list ds) ∨ Dp K H y (.tuple ds)) ∧ SeqAt.shaped d = true ∧ SeqAt.shaped (.tuple ds) = true ∧ Q (.bl (if neg then !ds.any (fun z => PyData.eqv z d) else ds.any (fun z => PyData.eqv z d))) H)
theorem sh_tl (ds : List PyData) : SeqAt.shaped (.list ds) = SeqAt.shaped (.tuple ds) := by
  simp [SeqAt.shaped, PyData.canLay0, PyData.depth]
section
variable {X : Cx} {K : PySem.W.Frag} {k : Nat} {Z : Zx}
theorem op_inU (hK : X.K = K) (hr : Room k X.A) : OpR X (compareOp .In) (rInU K false) := by
  subst hK
  intro pins s σ H x y v u Q I rx ry q
  rcases q with ⟨a, o, rfl, g, q⟩ | ⟨d, ds, h1, h2 | h2, h3, h4, q⟩
  · cases ry
    exact dg_in (Room.u1 hr) I g rx fun s' I' => ⟨.bl _, H, I', rfl, q⟩
  · exact op_inD (Room.u65 hr) pins s σ H x y v u Q I rx ry ⟨d, ds, h1, h2, h3, by rw [sh_tl]; exact h4, q⟩
  · exact op_inT (Room.u66 hr) pins s σ H x y v u Q I rx ry ⟨d, ds, h1, h2, h3, h4, q⟩
theorem op_notInU (hK : X.K = K) (hr : Room k X.A) : OpR X (compareOp .NotIn) (rInU K true) := by
  subst hK
  intro pins s σ H x y v u Q I rx ry q
  rcases q with ⟨a, o, rfl, g, q⟩ | ⟨d, ds, h1, h2 | h2, h3, h4, q⟩
  · cases ry
    exact dg_notIn (Room.u1 hr) I g rx fun s' I' => ⟨.bl _, H, I', rfl, q⟩
  · exact op_notInD (Room.u65 hr) pins s σ H x y v u Q I rx ry ⟨d, ds, h1, h2, h3, by rw [sh_tl]; exact h4, q⟩
  · exact op_notInT (Room.u66 hr) pins s σ H x y v u Q I rx ry ⟨d, ds, h1, h2, h3, h4, q⟩
noncomputable def inW (neg : Bool) : W → W → Sto → QK → Prop := fun a b σ Q => ∃ x, dat σ a = some x ∧ match prsOf σ b with
  | some kvs => keyC kvs x ∧ Q (.d (.bool (if neg then !(dget kvs x).isSome else (dget kvs x).isSome))) σ
  | none => ∃ ys, seqOf σ b = some ys ∧ SeqAt.shaped x = true ∧ SeqAt.shaped (.tuple ys) = true ∧ Q (.d (.bool (if neg then !ys.any (fun z => PyData.eqv z x) else ys.any (fun z => PyData.eqv z x)))) σ
instance sim_inU {neg : Bool} : SimR2 Z (rInU Z.K neg) (inW neg) := ⟨fun {ρ σ H x y a b Qa Q} rl va vb q kq => by
  obtain ⟨d, hd, q⟩ := q
  have td := dat_tp rl va hd
  cases hp : prsOf σ b with
  | some kvs =>
    rw [hp] at q
    obtain ⟨ad, rfl, rd⟩ := prsOf_rd rl vb hp
    obtain ⟨o, g, rr, _⟩ := dg_of rd q.1 td
    refine .inl ⟨ad, o, rfl, g, ?_⟩
    rw [rr.isSome]
    exact kq.d .refl rl (Rp.bl _) q.2
  | none =>
    rw [hp] at q
    obtain ⟨ys, h1, h2, h3, q⟩ := q
    have lay : PyData.canLayAll0 ys = true := by
      have := sh_lay h3
      simpa [PyData.canLay0] using this
    refine .inr ⟨d, ys, td.dp (sh_lay h2), ?_, h2, h3, kq.d .refl rl (Rp.bl _) q⟩
    unfold seqOf at h1
    cases h4 : dat σ b with
    | none => rw [h4] at h1; cases h1
    | some dd =>
      rw [h4] at h1
      have tb := dat_tp rl vb h4
      cases dd <;> first | (cases h1; done) | skip
      · cases h1
        exact .inl (tb.dp (by simpa [PyData.canLay0] using lay))
      · cases h1
        exact .inr (tb.dp (by simpa [PyData.canLay0] using lay))⟩
end
end Aw

/-! Aw8: places and slices. -/
namespace Aw
open PySem PySem.Spec PyProof.Rows L2 Mw
section
variable {X : Cx} {K : PySem.W.Frag} {k : Nat} {Z : Zx}
def rIxD : R2 := fun x y H Q => ∃ a v, x = .ref a ∧ DGet H a y (some v) ∧ Q v H
theorem ix_dict (hr : Room k X.A) : IxR X rIxD := by
  intro value slice pins s σ H x y v u Q I rx ry h hs
  obtain ⟨a, z, rfl, g, q⟩ := h
  cases rx
  have hu := Room.u1 hr
  have ty := dict_typeIs I g
  rcases g with ⟨kvs, k, e, ey, l⟩ | ⟨kvs, k, b, e, ey, eb, l⟩
  · subst ey
    obtain ⟨zz, hd, vs, rel, dd⟩ := dk_rd I.hok e
    obtain ⟨w', hw, rw'⟩ := RelO.some_of (v := z) (o := valueAt vs k) (by rw [l]; exact rel.val k)
    exact subscriptTail_builtinR (x := w') ty PySem.F.slot_dict_getitem.lookup (wpAny_getItem_of (kV_is ry) dd.mapOf hw ⟨rfl, z, H, I.tok _, rw', q⟩) hs
  · subst ey
    cases (show u = Value.ref b from ry)
    obtain ⟨zz, hd, xs, rel, dd⟩ := dt_rd I.hok e
    obtain ⟨w', hw, rw'⟩ := RelO.some_of (v := z) (o := (atKey xs k).map (·.2)) (by rw [l]; exact rel.val k)
    obtain ⟨p, hp, hp2⟩ := Option.map_eq_some_iff.mp hw
    refine subscriptTail_builtinR (x := w') ty PySem.F.slot_dict_getitem.lookup (wpAny_getItem_heap (tupleKind_room_in1 hu) (key_of I.hok eb) dd hp ?_) hs
    rw [hp2]
    exact ⟨rfl, z, H, I.tok _, rw', q⟩
def rIxU (K : PySem.W.Frag) : R2 := fun x y H Q => rIxL K x y H Q ∨ rIxT K x y H Q ∨ rIxS x y H Q ∨ rIxD x y H Q
theorem ix_U (hK : X.K = K) (hr : Room k X.A) : IxR X (rIxU K) := by
  subst hK
  exact ix_list.or (ix_tup.or (ix_str.or (ix_dict hr)))
/-- the items of a list or a tuple, as they are now -/
def itemsOf (σ : Sto) : W → Option (List W)
  | .d (.list ds) => some (ds.map .d)
  | .d (.tuple ds) => some (ds.map .d)
  | .ref i => match σ[i]? with
    | some (.lst ws) => some ws
    | _ => none
  | _ => none
/-- x[y] -/
noncomputable def ixW : W → W → Sto → QK → Prop := fun a b σ Q => ∃ y, dat σ b = some y ∧ match prsOf σ a with
  | some kvs => keyC kvs y ∧ ∃ w, dget kvs y = some w ∧ Q w σ
  | none => ∃ i, y = .int i ∧ match a with
    | .d (.str z) => z.length ≤ sizeLine ∧ ∃ c, atI z.cps.toList i = some c ∧ Q (.d (.str ⟨#[c]⟩)) σ
    | _ => ∃ ws w, itemsOf σ a = some ws ∧ atI ws i = some w ∧ Q w σ
theorem atI_map {α β : Type} (f : α → β) (xs : List α) (i : Int) : atI (xs.map f) i = (atI xs i).map f := by
  unfold atI
  rw [List.length_map]
  cases ixN xs.length i with
  | none => rfl
  | some j => simp
theorem atI_paired {α β : Type} {R : α → β → Prop} {l : List α} {m : List β} {i : Int} {b : β} (h : Paired R l m) (e : atI m i = some b) : ∃ a, atI l i = some a ∧ R a b := by
  unfold atI at e ⊢
  rw [Paired.len h]
  cases hj : ixN m.length i with
  | none => rw [hj] at e; cases e
  | some j =>
    rw [hj] at e
    obtain ⟨a, h1, h2⟩ := Paired.get h (show m[j]? = some b from e)
    exact ⟨a, h1, h2⟩
theorem itemsOf_rd {T : Fx} {ρ : List Addr} {H : Hp} {σ : Sto} {v : V} (r : Rel K T ρ σ H) : ∀ {w : W} {ws : List W}, WR K ρ H v w → itemsOf σ w = some ws → ∃ a xs, v = .ref a ∧ (Rd H a (.lst xs) ∨ ∃ ds, ws = ds.map .d ∧ TuA H a xs ds) ∧ WRs K ρ H xs ws
  | .d (.list ds), _, h, e => by
    cases e
    have h : Rp K ρ H v (.list ds) := h
    cases h with
    | lst h1 h2 => exact ⟨_, _, rfl, .inl h1.2, rpAll_wrs h2⟩
  | .d (.tuple ds), _, h, e => by
    cases e
    obtain ⟨a, xs, e1, e2, e3⟩ := h.tup
    exact ⟨a, xs, e1, .inr ⟨ds, rfl, e2⟩, rpAll_wrs e3⟩
  | .ref i, ws, h, e => by
    obtain ⟨a, ha, rfl⟩ := h
    cases hc : σ[i]? with
    | none => simp [itemsOf, hc] at e
    | some c =>
      have cr := r.cell i a c ha hc
      cases c with
      | dct t kv => simp [itemsOf, hc] at e
      | lck t kv => simp [itemsOf, hc] at e
      | lst wl =>
        have e' : wl = ws := by simpa [itemsOf, hc] using e
        subst e'
        obtain ⟨xs, e1, e2⟩ := cr
        exact ⟨a, xs, rfl, .inl (.inl e1), e2⟩
  | .d .none, _, _, e => by cases e
  | .d (.bool _), _, _, e => by cases e
  | .d (.int _), _, _, e => by cases e
  | .d (.str _), _, _, e => by cases e
  | .d (.dict _), _, _, e => by cases e
  | .scr _, _, _, e => by cases e
instance sim_ixU : SimR2 Z (rIxU Z.K) ixW := ⟨fun {ρ σ H x y a b Qa Q} rl va vb q kq => by
  obtain ⟨d, hd, q⟩ := q
  have td := dat_tp rl vb hd
  cases hp : prsOf σ a with
  | some kvs =>
    rw [hp] at q
    obtain ⟨kc, w, hw, q⟩ := q
    obtain ⟨ad, rfl, rd⟩ := prsOf_rd rl va hp
    obtain ⟨o, g, rr, gg⟩ := dg_of rd kc td
    rw [hw] at rr
    cases o with
    | none => exact rr.elim
    | some v => exact .inr (.inr (.inr ⟨ad, v, rfl, gg rfl, kq _ _ _ _ _ .refl rl rr q⟩))
  | none =>
    rw [hp] at q
    obtain ⟨i, rfl, q⟩ := q
    have ey := td.int
    have gen : (∃ ws w, itemsOf σ a = some ws ∧ atI ws i = some w ∧ Qa w σ) → rIxU Z.K x y H Q := fun ⟨ws, w, h1, h2, h3⟩ => by
      obtain ⟨ad, xs, rfl, hr, hws⟩ := itemsOf_rd rl va h1
      obtain ⟨v, hv, wv⟩ := atI_paired hws h2
      rcases hr with hr | ⟨_, _, hr⟩
      · exact .inl ⟨ad, xs, i, v, rfl, ey, .inl hr, hv, kq _ _ _ _ _ .refl rl wv h3⟩
      · exact .inr (.inl ⟨ad, xs, i, v, rfl, ey, .inl hr.rd, hv, kq _ _ _ _ _ .refl rl wv h3⟩)
    cases a with
    | ref j => exact gen q
    | scr ns => exact gen q
    | d dd =>
      cases dd <;> first | exact gen q | skip
      obtain ⟨h1, c, h2, h3⟩ := q
      exact .inr (.inr (.inl ⟨_, i, c, va.str, ey, h1, h2, kq.d .refl rl (Rp.str _) h3⟩))⟩
/-! ### slices -/
theorem SlR.or {r r' : V → Option Int → Option Int → Hp → VK → Prop} (h : L2.SlR X r) (h' : L2.SlR X r') : L2.SlR X (fun x l u H Q => r x l u H Q ∨ r' x l u H Q) := by
  intro pins s σ H x v vl vu lo hi sl Q I rx hs pl pu q
  rcases q with q | q
  · exact h pins s σ H x v vl vu lo hi sl Q I rx hs pl pu q
  · exact h' pins s σ H x v vl vu lo hi sl Q I rx hs pl pu q
def rSlU (K : PySem.W.Frag) : V → Option Int → Option Int → Hp → VK → Prop := fun x l u H Q => rSlL K x l u H Q ∨ rSlF K x l u H Q ∨ rSlS x l u H Q
theorem sl_U (hK : X.K = K) : L2.SlR X (rSlU K) := by
  subst hK
  exact SlR.or sl_list (SlR.or sl_tupF sl_str)
def cutL {α : Type} (xs : List α) (lo hi : Option Int) : List α := (xs.drop (HT.sIx xs.length 0 lo)).take (HT.sIx xs.length xs.length hi - HT.sIx xs.length 0 lo)
theorem cut_rp {ρ : List Addr} {H : Hp} {xs : List V} {ds : List PyData} (lo hi : Option Int) (h : RpAll K ρ H xs ds) : RpAll K ρ H (cutV xs lo hi) (cutL ds lo hi) := by
  unfold cutV cutL
  rw [rpAll_len h]
  exact rpAll_take _ (rpAll_drop _ h)
def slW : W → Option Int → Option Int → Sto → QK → Prop := fun a lo hi σ Q => match a with
  | .scr ns => Q (.d (.list (cutL (ns.map .int) lo hi))) σ
  | _ => ∃ x, dat σ a = some x ∧ match x with
    | .list ds => Q (.d (.list (cutL ds lo hi))) σ
    | .tuple ds => Q (.d (.tuple (cutL ds lo hi))) σ
    | .str z => z.length ≤ sizeLine ∧ Q (.d (.str (cutS z lo hi))) σ
    | _ => False
theorem rp_ints {ρ : List Addr} {H : Hp} : ∀ ns : List Int, RpAll K ρ H (ns.map V.int) (ns.map PyData.int)
  | [] => .nil
  | n :: ns => .cons (.int n) (rp_ints ns)
theorem cut_all {α : Type} {xs : List α} {lo hi : Option Int} (h : HT.sIx xs.length 0 lo = 0 ∧ HT.sIx xs.length xs.length hi = xs.length) : cutL xs lo hi = xs := by
  unfold cutL
  rw [h.1, h.2]
  simp
theorem sl_sim {ρ : List Addr} {σ : Sto} {H : Hp} {x : V} {a : W} {lo hi : Option Int} {Qa : QK} {Q : VK} (rl : Rel Z.K Z.T ρ σ H) (va : WR Z.K ρ H x a) (q : slW a lo hi σ Qa) (kq : KQ Z ρ H Qa Q) : rSlU Z.K x lo hi H Q := by
  have gen : (∃ y, dat σ a = some y ∧ match y with
    | .list ds => Qa (.d (.list (cutL ds lo hi))) σ
    | .tuple ds => Qa (.d (.tuple (cutL ds lo hi))) σ
    | .str z => z.length ≤ sizeLine ∧ Qa (.d (.str (cutS z lo hi))) σ
    | _ => False) → rSlU Z.K x lo hi H Q := fun ⟨y, hy, q⟩ => by
    have t := dat_tp rl va hy
    cases y <;> first | exact q.elim | skip
    · exact .inr (.inr ⟨_, t.str, q.1, kq.d .refl rl (Rp.str _) q.2⟩)
    · obtain ⟨ad, xs, rfl, h1, h2⟩ := t
      exact .inl ⟨ad, xs, rfl, .inl h1, fun p n => kq.layL rl n (cut_rp lo hi h2) q⟩
    · obtain ⟨ad, xs, rfl, h1, h2⟩ := t.tup
      rename_i ds
      have q' : Qa (.d (.tuple (cutL ds lo hi))) σ := q
      refine .inr (.inl ⟨ad, xs, rfl, .inl h1.rd, fun hw => ?_, fun _ => kq.layT rl (cut_rp lo hi h2) q'⟩)
      rw [cut_all (by rw [← rpAll_len h2]; exact hw)] at q'
      exact kq.d .refl rl (Rp.tup h1 h2) q'
  cases a with
  | ref i => exact gen q
  | d y => exact gen q
  | scr ns =>
    obtain ⟨ad, rfl, sq, _⟩ := va
    exact .inl ⟨ad, _, rfl, sq, fun p n => kq.layL rl n (cut_rp lo hi (rp_ints ns)) q⟩
abbrev AO := Ev → Sto → (Option Int → Sto → Prop) → XQ → Prop
def aNoP : AO := fun _ σ Q _ => Q none σ
def aPart (fa : AE) : AO := fun e σ Q X => fa e σ (fun w σ1 => ∃ i, w = .d (.int i) ∧ Q (some i) σ1) X
class SimO (Z : Zx) (E : L2.St → XK) (to : TO) (ao : outParam AO) : Prop where
  sim : ∀ {ρ : List Addr} {σ : Sto} {H : Hp} {s : L2.St} {e : Ev} {Qa : Option Int → Sto → Prop} {Ea : XQ} {Q : Option Int → Hp → Prop}, Rel Z.K Z.T ρ σ H → ER Z.K ρ H s e → ao e σ Qa Ea →
    (∀ ρ' σ' H' o, Go Z.T ρ H ρ' H' → Rel Z.K Z.T ρ' σ' H' → Qa o σ' → Q o H') → KX Z ρ H Ea (E s) → to s H Q
variable {E : L2.St → XK} {ta : TE} {fa : AE}
instance sim_noP : SimO Z E tNoPart aNoP := ⟨fun r er h k _ => k _ _ _ _ .refl r h⟩
instance sim_part [ia : SimE Z E ta fa] : SimO Z E (tPart ta) (aPart fa) := ⟨fun r er h k kx =>
  ia.sim r er h (fun _ _ _ _ _ g r' v h' => by
    obtain ⟨i, rfl, q⟩ := h'
    exact ⟨i, v.int, k _ _ _ _ g r' q⟩) kx⟩
def aSl (fa : AE) (fl fu : AO) : AE := fun e σ Q X => fa e σ (fun w σ1 => fl e σ1 (fun l σ2 => fu e σ2 (fun u σ3 => slW w l u σ3 Q) X) X) X
instance sim_sl {tl tu : TO} {fl fu : AO} [ia : SimE Z E ta fa] [il : SimO Z E tl fl] [iu : SimO Z E tu fu] : SimE Z E (tSl (rSlU Z.K) ta tl tu) (aSl fa fl fu) := ⟨fun r er h kq kx =>
  ia.sim r er h (fun _ _ _ _ _ g1 r1 v1 h1 => il.sim r1 (g1.er r er) h1 (fun _ _ _ _ g2 r2 h2 => iu.sim r2 ((g1.trans g2).er r er) h2 (fun _ _ _ _ g3 r3 h3 =>
    sl_sim r3 ((g2.trans g3).wr r1 v1) h3 (kq.go ((g1.trans g2).trans g3))) (kx.go (g1.trans g2))) (kx.go g1)) kx⟩
end
end Aw

/-! Aw9: cells that are left behind; things that are frozen. -/
namespace Aw
open PySem PySem.Spec PyProof.Rows L2 Mw
def Clo (n : Nat) : W → Prop
  | .ref i => i < n
  | _ => True
def CloC (n : Nat) : Cell → Prop
  | .lst ws => ∀ w ∈ ws, Clo n w
  | .dct _ kvs => ∀ p ∈ kvs, Clo n p.2
  | .lck _ kvs => ∀ p ∈ kvs, Clo n p.2
mutual
/-- what a value is, when the cells from n on are frozen -/
inductive Frz (n : Nat) (σ : Sto) : W → PyData → Prop
  | d (x : PyData) : Frz n σ (.d x) x
  | lst {i : Nat} {ws : List W} {ds : List PyData} : n ≤ i → σ[i]? = some (.lst ws) → FrzAll n σ ws ds → Frz n σ (.ref i) (.list ds)
  | dct {i : Nat} {t : Bool} {kvs : List (PyData × W)} {ds : List (PyData × PyData)} : n ≤ i → σ[i]? = some (.dct t kvs) → FrzPs n σ kvs ds → Frz n σ (.ref i) (.dict ds)
inductive FrzAll (n : Nat) (σ : Sto) : List W → List PyData → Prop
  | nil : FrzAll n σ [] []
  | cons {w : W} {ws : List W} {d : PyData} {ds : List PyData} : Frz n σ w d → FrzAll n σ ws ds → FrzAll n σ (w :: ws) (d :: ds)
inductive FrzPs (n : Nat) (σ : Sto) : List (PyData × W) → List (PyData × PyData) → Prop
  | nil : FrzPs n σ [] []
  | cons {k : PyData} {w : W} {ps : List (PyData × W)} {d : PyData} {ds : List (PyData × PyData)} : Frz n σ w d → FrzPs n σ ps ds → FrzPs n σ ((k, w) :: ps) ((k, d) :: ds)
end
/-- the cells below n lean on nothing from n on -/
structure Shed (n : Nat) (σ σ' : Sto) : Prop where
  le : n ≤ σ'.length
  clo : ∀ (i : Nat) (c : Cell), i < n → σ'[i]? = some c → σ[i]? = some c ∨ CloC n c
section
variable {K : PySem.W.Frag} {T : Fx} {ρ ρ' : List Addr} {H H' : Hp} {σ σ' : Sto} {v : V} {n : Nat}
theorem SqO.anti {a : Addr} {xs : List V} (hs : ∀ b ∈ ρ', b ∈ ρ) (h : SqO ρ H a xs) : SqO ρ' H a xs := ⟨fun z => h.1 (hs _ z), h.2⟩
mutual
theorem Rp.anti (hs : ∀ b ∈ ρ', b ∈ ρ) : ∀ {d : PyData} {v : V}, Rp K ρ H v d → Rp K ρ' H v d
  | _, _, .non => .non
  | _, _, .bl b => .bl b
  | _, _, .int i => .int i
  | _, _, .str x => .str x
  | _, _, .lst h a => .lst (h.anti hs) (RpAll.anti hs a)
  | _, _, .tup h a => .tup h (RpAll.anti hs a)
  | _, _, .dK n h a => .dK (fun z => n (hs _ z)) h (RpPs.anti hs a)
  | _, _, .dT n h a => .dT (fun z => n (hs _ z)) h (RpPs.anti hs a)
theorem RpAll.anti (hs : ∀ b ∈ ρ', b ∈ ρ) : ∀ {ds : List PyData} {vs : List V}, RpAll K ρ H vs ds → RpAll K ρ' H vs ds
  | _, _, .nil => .nil
  | _, _, .cons h t => .cons (Rp.anti hs h) (RpAll.anti hs t)
theorem RpPs.anti (hs : ∀ b ∈ ρ', b ∈ ρ) : ∀ {ds : List (PyData × PyData)} {vs : List (PyData × V)}, RpPs K ρ H vs ds → RpPs K ρ' H vs ds
  | _, _, .nil => .nil
  | _, _, .cons h t => .cons (Rp.anti hs h) (RpPs.anti hs t)
end
theorem take_sub (n : Nat) (ρ : List Addr) : ∀ b ∈ ρ.take n, b ∈ ρ := fun b h => List.mem_of_mem_take h
theorem take_at {i : Nat} {a : Addr} (h : ρ[i]? = some a) (hi : i < n) : (ρ.take n)[i]? = some a := by
  rw [List.getElem?_take_of_lt hi]; exact h
theorem WR.take : ∀ {w : W}, WR K ρ H v w → Clo n w → WR K (ρ.take n) H v w
  | .d x, h, _ => Rp.anti (take_sub n ρ) h
  | .ref i, ⟨a, h, e⟩, c => ⟨a, take_at h c, e⟩
  | .scr ns, ⟨a, e, h⟩, _ => ⟨a, e, h.1, fun z => h.2 (take_sub n ρ _ z)⟩
theorem WRs.take : ∀ {vs : List V} {ws : List W}, WRs K ρ H vs ws → (∀ w ∈ ws, Clo n w) → WRs K (ρ.take n) H vs ws
  | _, _, .nil, _ => .nil
  | _, _, .cons h t, c => .cons (WR.take h (c _ (by simp))) (WRs.take t fun w hw => c w (by simp [hw]))
theorem PRs.take : ∀ {vs : List (PyData × V)} {ws : List (PyData × W)}, PRs K ρ H vs ws → (∀ p ∈ ws, Clo n p.2) → PRs K (ρ.take n) H vs ws
  | _, _, .nil, _ => .nil
  | _, _, .cons h t, c => .cons ⟨h.1, WR.take h.2 (c _ (by simp))⟩ (PRs.take t fun w hw => c w (by simp [hw]))
theorem CR.take {a : Addr} : ∀ {c : Cell}, CR K ρ H a c → CloC n c → CR K (ρ.take n) H a c
  | .lst ws, ⟨xs, h, q⟩, c => ⟨xs, h, WRs.take q c⟩
  | .dct false kvs, ⟨hk, h, q⟩, c => ⟨hk, h, PRs.take q c⟩
  | .dct true kvs, ⟨hk, h, q⟩, c => ⟨hk, h, PRs.take q c⟩
  | .lck false kvs, ⟨hk, h, q⟩, c => ⟨hk, h, PRs.take q c⟩
  | .lck true kvs, ⟨hk, h, q⟩, c => ⟨hk, h, PRs.take q c⟩
theorem WR.clo (r : Rel K T ρ σ H) : ∀ {w : W}, WR K ρ H v w → Clo σ.length w
  | .d x, _ => True.intro
  | .scr x, _ => True.intro
  | .ref i, ⟨a, h, e⟩ => by
    show i < σ.length
    rw [r.len]
    exact (List.getElem?_eq_some_iff.mp h).1
theorem WRs.clo (r : Rel K T ρ σ H) : ∀ {vs : List V} {ws : List W}, WRs K ρ H vs ws → ∀ w ∈ ws, Clo σ.length w
  | _, _, .cons h t, w, hw => by
    rcases List.mem_cons.mp hw with e | hw
    · rw [e]; exact WR.clo r h
    · exact WRs.clo r t w hw
theorem PRs.clo (r : Rel K T ρ σ H) : ∀ {vs : List (PyData × V)} {ws : List (PyData × W)}, PRs K ρ H vs ws → ∀ p ∈ ws, Clo σ.length p.2
  | _, _, .cons h t, w, hw => by
    rcases List.mem_cons.mp hw with e | hw
    · rw [e]; exact WR.clo r h.2
    · exact PRs.clo r t w hw
theorem Rel.clo (r : Rel K T ρ σ H) {i : Nat} {c : Cell} (h : σ[i]? = some c) : CloC σ.length c := by
  obtain ⟨a, _, hc⟩ := r.at_ h
  cases c with
  | lst ws => obtain ⟨xs, _, q⟩ := hc; exact WRs.clo r q
  | dct t kvs => cases t <;> (obtain ⟨hk, _, q⟩ := hc; exact PRs.clo r q)
  | lck t kvs => cases t <;> (obtain ⟨hk, _, q⟩ := hc; exact PRs.clo r q)
/-- the cells from n on are left behind -/
theorem Rel.take (r : Rel K T ρ σ H) (hn : n = σ.length) (r' : Rel K T ρ' σ' H') (s : Shed n σ σ') : Rel K T (ρ'.take n) (σ'.take n) H' := by
  refine ⟨by rw [List.length_take, List.length_take, r'.len], r'.nd.sublist (List.take_sublist n ρ'), fun i a c h1 h2 => ?_, r'.tb, r'.ct⟩
  have hi : i < n := by
    have := (List.getElem?_eq_some_iff.mp h1).1
    rw [List.length_take] at this
    omega
  rw [List.getElem?_take_of_lt hi] at h1 h2
  refine CR.take (r'.cell i a c h1 h2) ?_
  rcases s.clo i c hi h2 with z | z
  · rw [hn]; exact r.clo z
  · exact z
theorem Go.take (g : Go T ρ H ρ' H') (hn : n = ρ.length) : Go T ρ H (ρ'.take n) H' := by
  obtain ⟨t, rfl⟩ := g.pre
  have e : (ρ ++ t).take n = ρ := by rw [hn]; simp
  rw [e]
  exact .mk' (List.prefix_refl _) (fun _ h => .inl h) g.keep g.th g.lk
mutual
theorem Frz.rp (r : Rel K T ρ σ H) : ∀ {w : W} {d : PyData} {v : V}, Frz n σ w d → WR K ρ H v w → Rp K (ρ.take n) H v d
  | _, _, _, .d x, h => Rp.anti (take_sub n ρ) h
  | _, _, v, .lst (i := i) (ws := ws) hi hc hf, h => by
    obtain ⟨a, ha, rfl⟩ := h
    obtain ⟨xs, e1, e2⟩ := r.cell i a _ ha hc
    refine .lst ⟨fun z => ?_, .inl e1⟩ (FrzAll.rp r hf e2)
    obtain ⟨j, hj⟩ := List.getElem?_of_mem z
    have hjn : j < n := by
      have := (List.getElem?_eq_some_iff.mp hj).1
      rw [List.length_take] at this
      omega
    rw [List.getElem?_take_of_lt hjn] at hj
    obtain ⟨l1, e3⟩ := List.getElem?_eq_some_iff.mp hj
    obtain ⟨l2, e4⟩ := List.getElem?_eq_some_iff.mp ha
    have := (List.getElem_inj r.nd).mp (e3.trans e4.symm)
    omega
  | _, _, v, .dct (i := i) (t := t) hi hc hf, h => by
    obtain ⟨a, ha, rfl⟩ := h
    have na : a ∉ ρ.take n := fun z => by
      obtain ⟨j, hj⟩ := List.getElem?_of_mem z
      have hjn : j < n := by
        have := (List.getElem?_eq_some_iff.mp hj).1
        rw [List.length_take] at this
        omega
      rw [List.getElem?_take_of_lt hjn] at hj
      obtain ⟨l1, e3⟩ := List.getElem?_eq_some_iff.mp hj
      obtain ⟨l2, e4⟩ := List.getElem?_eq_some_iff.mp ha
      have := (List.getElem_inj r.nd).mp (e3.trans e4.symm)
      omega
    cases t with
    | false =>
      obtain ⟨hk, e1, e2⟩ := r.cell i a _ ha hc
      exact .dK na (.inl e1) (FrzPs.rp r hf e2)
    | true =>
      obtain ⟨hk, e1, e2⟩ := r.cell i a _ ha hc
      exact .dT na (.inl e1) (FrzPs.rp r hf e2)
theorem FrzAll.rp (r : Rel K T ρ σ H) : ∀ {ws : List W} {ds : List PyData} {vs : List V}, FrzAll n σ ws ds → WRs K ρ H vs ws → RpAll K (ρ.take n) H vs ds
  | _, _, _, .nil, h => by cases h; exact .nil
  | _, _, _, .cons hf ht, h => by
    cases h with
    | cons h1 h2 => exact .cons (Frz.rp r hf h1) (FrzAll.rp r ht h2)
theorem FrzPs.rp (r : Rel K T ρ σ H) : ∀ {ws : List (PyData × W)} {ds : List (PyData × PyData)} {vs : List (PyData × V)}, FrzPs n σ ws ds → PRs K ρ H vs ws → RpPs K (ρ.take n) H vs ds
  | _, _, _, .nil, h => by cases h; exact .nil
  | _, _, _, .cons (k := k) hf ht, h => by
    cases h with
    | @cons p q as bs h1 h2 =>
      obtain ⟨k', v⟩ := p
      obtain ⟨e1, e2⟩ := h1
      cases (show k' = k from e1)
      exact .cons (Frz.rp r hf e2) (FrzPs.rp r ht h2)
end
end
theorem frzAll_pures {n : Nat} {σ : Sto} : ∀ {ws : List W} {ds : List PyData}, pures ws = some ds → FrzAll n σ ws ds
  | [], ds, h => by cases h; exact .nil
  | .d x :: ws, ds, h => by
    obtain ⟨ds', h1, rfl⟩ := Option.map_eq_some_iff.mp (show (pures ws).map (x :: ·) = some ds from h)
    exact .cons (.d x) (frzAll_pures h1)
  | .ref _ :: _, _, h => by cases h
  | .scr _ :: _, _, h => by cases h
/-! ### defs whose own cells are left behind -/
section
variable {P : Program} {w : World} {Z : Zx} {mg : Str → Option Value} {base : Heap} {CX : CXT} {k m : Nat} {f : Addr} {fd : FuncData} {ps : List Str} {mf mf' : AF}
/-- a value that is told: data, frozen from what was made here; or a cell from before -/
def Told (n : Nat) (σ σ' : Sto) (w : W) (Q : QK) : Prop := Shed n σ σ' ∧ ((∃ d, Frz n σ' w d ∧ Q (.d d) (σ'.take n)) ∨ (Clo n w ∧ Q w (σ'.take n)))
theorem spA_shed (h : ∀ ws σ Q X, mf' ws σ Q X → mf ws σ (fun w σ' => Told σ.length σ σ' w Q) X) : ∀ vs H Q E, spA Z m mf' vs H Q E → spA Z m mf vs H Q E := fun vs H Q E ⟨hl, ρ, σ, ws, Qa, Ea, r, v, q, kq, kx⟩ => by
  refine ⟨hl, ρ, σ, ws, _, Ea, r, v, h _ _ _ _ q, fun ρ' σ' H' v' w' g r' vr t => ?_, kx⟩
  have g' := g.take (n := σ.length) r.len
  have r2 := r.take rfl r' t.1
  rcases t.2 with ⟨d, hf, q⟩ | ⟨hc, q⟩
  · exact kq _ _ _ _ (.d d) g' r2 (hf.rp r' vr) q
  · exact kq _ _ _ _ w' g' r2 (vr.take hc) q
theorem FnOk.shed (F : FnOk P w Z.K mg base CX k f fd ps (spA Z m mf)) (h : ∀ ws σ Q X, mf' ws σ Q X → mf ws σ (fun w σ' => Told σ.length σ σ' w Q) X) : FnOk P w Z.K mg base CX k f fd ps (spA Z m mf') :=
  F.imp (spA_shed h)
/-- another function that asks for more -/
theorem FnOk.as (F : FnOk P w Z.K mg base CX k f fd ps (spA Z m mf)) (h : ∀ ws σ Q X, mf' ws σ Q X → mf ws σ Q X) : FnOk P w Z.K mg base CX k f fd ps (spA Z m mf') :=
  F.imp fun vs H Q E ⟨hl, ρ, σ, ws, Qa, Ea, r, v, q, kq, kx⟩ => ⟨hl, ρ, σ, ws, Qa, Ea, r, v, h _ _ _ _ q, kq, kx⟩
end
/-- the usual ways to leave cells behind -/
theorem Shed.app (σ j : Sto) : Shed σ.length σ (σ ++ j) := ⟨by simp, fun i c hi h => .inl (by rwa [List.getElem?_append_left hi] at h)⟩
theorem Shed.refl (σ : Sto) : Shed σ.length σ σ := ⟨Nat.le_refl _, fun i c _ h => .inl h⟩
theorem Shed.set {σ j : Sto} {i : Nat} {c : Cell} (h : CloC σ.length c) : Shed σ.length σ (σ.set i c ++ j) := by
  refine ⟨by simp, fun l c' hl e => ?_⟩
  rw [List.getElem?_append_left (by simpa using hl)] at e
  by_cases hi : l = i
  · subst hi
    rw [List.getElem?_set_self hl] at e
    cases e
    exact .inr h
  · rw [List.getElem?_set_ne (Ne.symm hi)] at e
    exact .inl e
theorem told_d {σ j : Sto} {x : PyData} {Q : QK} (q : Q (.d x) σ) : Told σ.length σ (σ ++ j) (.d x) Q := ⟨.app σ j, .inl ⟨x, .d x, by simpa using q⟩⟩
theorem told_set {σ j : Sto} {i : Nat} {c : Cell} {x : PyData} {Q : QK} (h : CloC σ.length c) (q : Q (.d x) (σ.set i c)) : Told σ.length σ (σ.set i c ++ j) (.d x) Q :=
  ⟨.set h, .inl ⟨x, .d x, by rw [List.take_append_of_le_length (by simp), List.take_of_length_le (by simp)]; exact q⟩⟩
end Aw

/-! AwA: what is walked. -/
namespace Aw
open PySem PySem.Spec PyProof.Rows L2 Mw
section
variable {X : Cx} {K : PySem.W.Frag} {Z : Zx} {tg : Expr} {E : L2.St → XK} {ta : TE} {fa : AE}
/-- a list, a tuple, a text -/
def IDk (a : Addr) (H : Hp) (R : It → Hp → Prop) : Prop := (∃ o kvs, H a = some (.frz o (.dK kvs)) ∧ R (Itk a o kvs) H) ∨ (∃ o kvs, H a = some (.frz o (.dT kvs)) ∧ R (Itkt a o kvs) H) ∨
  (∃ kvs, H a = some (.dK kvs) ∧ ∀ o, R (Itk a o kvs) (upd H a (.frz o (.dK kvs)))) ∨ ∃ kvs, H a = some (.dT kvs) ∧ ∀ o, R (Itkt a o kvs) (upd H a (.frz o (.dT kvs)))
theorem idk_run {d : Addr} {pins : List (Addr × Obj)} {s : Shared} {σ : L2.St} {H : Hp} {R : It → Hp → Prop} (I : Inv X pins σ H s) (h : IDk d H R) : wpAny (model X.prog X.w) X.A (pyIter (.ref d)) (PIE X pins σ tg R) X.xe s := by
  have one : ∀ {o : Obj} {kvs : List (Key × V)} {H : Hp}, Inv X pins σ H s → H d = some (.frz o (.dK kvs)) → R (Itk d o kvs) H → wpAny (model X.prog X.w) X.A (pyIter (.ref d)) (PIE X pins σ tg R) X.xe s := fun {o kvs H} I hd q => by
    obtain ⟨hs, hgd, hx, es, ep, vs, hdt, hsz, kv, hm⟩ := I.frzK hd
    refine iter_keys hs hgd hx hdt (pi_one (tk := s.toks) I _ (turn_keys _ hdt) ⟨_, Heap.get?_push_size _ rfl, rfl, ?_⟩ q)
    rw [hsz] <;> rfl
  have two : ∀ {o : Obj} {kvs : List (List Key × V)} {H : Hp}, Inv X pins σ H s → H d = some (.frz o (.dT kvs)) → R (Itkt d o kvs) H → wpAny (model X.prog X.w) X.A (pyIter (.ref d)) (PIE X pins σ tg R) X.xe s := fun {o kvs H} I hd q => by
    obtain ⟨hs, hgd, hx, es, ep, hdt, hsz, ent⟩ := I.frzT hd
    refine iter_keys hs hgd hx hdt (pi_one (tk := s.toks) I _ (turn_keysT _ hdt) ⟨_, Heap.get?_push_size _ rfl, rfl, ?_⟩ q)
    rw [hsz] <;> rfl
  rcases h with ⟨o, kvs, hd, q⟩ | ⟨o, kvs, hd, q⟩ | ⟨kvs, hd, q⟩ | ⟨kvs, hd, q⟩
  · exact one I hd q
  · exact two I hd q
  · obtain ⟨od, I1⟩ := I.lock hd True.intro
    exact one I1 upd_same (q od)
  · obtain ⟨od, I1⟩ := I.lock hd True.intro
    exact two I1 upd_same (q od)
def iU (K : PySem.W.Frag) (te : TE) : TI := fun σ H R => te σ H fun x H1 => (∃ a, x = .ref a ∧ ((∃ xs, SqL K H1 a xs ∧ R (Itl K a) H1) ∨ (∃ xs, SqT K H1 a xs ∧ R (Itt K a) H1) ∨ IDk a H1 R)) ∨ ∃ z, x = .str z ∧ R (Its z) H1
theorem pi_U {l : Expr} {tl : TE} (hK : X.K = K) (hl : PE X l tl) : PI X tg l (iU K tl) := by
  subst hK
  refine ⟨fun pins s σ H R I h => ?_⟩
  refine thn (hl.run pins s σ H _ I h) fun v s1 ⟨x, H1, I1, r1, q1⟩ => ?_
  rcases q1 with ⟨a, rfl, ⟨xs, hq, q⟩ | ⟨xs, hq, q⟩ | q⟩ | ⟨z, rfl, q⟩
  · cases r1
    obtain ⟨its, rv, p, hz⟩ := I1.list hq
    exact wpAny_pyIter_list p.isList (pi_one (tk := s1.toks) I1 _ (turn_list a _) ⟨_, Heap.get?_push_size _ rfl, rfl, rfl⟩ q)
  · cases r1
    obtain ⟨its, rv, p, hz⟩ := I1.tuple hq
    exact wpAny_pyIter_tuple (show s1.heap.IsTuple a its.toArray from p) (pi_one (tk := s1.toks) I1 _ (turn_tuple a _) ⟨_, Heap.get?_push_size _ rfl, rfl, rfl⟩ q)
  · cases r1
    exact idk_run I1 q
  · obtain ⟨t, rfl⟩ := r1
    cases ha : z.cps.all (· < 128)
    · exact wpAny_pyIter_wide ha (pi_one (tk := s1.toks) I1 _ (turn_str _ z t "str_iterator" (.inr rfl)) ⟨_, Heap.get?_push_size _ rfl, rfl, rfl⟩ q)
    · exact wpAny_pyIter_ascii ha (pi_one (tk := s1.toks) I1 _ (turn_str _ z t "str_ascii_iterator" (.inl rfl)) ⟨_, Heap.get?_push_size _ rfl, rfl, rfl⟩ q)
def chD (c : Nat) : W := .d (.str ⟨#[c]⟩)
def itW (σ : Sto) (R : List W → (Sto → Prop) → Sto → Prop) : W → Prop
  | .d (.list ds) => R (ds.map .d) (fun _ => True) σ
  | .d (.tuple ds) => R (ds.map .d) (fun _ => True) σ
  | .d (.str z) => R (z.cps.toList.map chD) (fun _ => True) σ
  | .d (.dict ds) => R (ds.map fun p => .d p.1) (fun _ => True) σ
  | .ref i => (∃ ws, σ[i]? = some (.lst ws) ∧ R ws (fun σ' => σ'[i]? = some (.lst ws)) σ) ∨ ∃ t kvs, σ[i]? = some (.lck t kvs) ∧ R (kvs.map fun p => .d p.1) (fun σ' => σ'[i]? = some (.lck t kvs)) σ
  | _ => False
def aIt (fa : AE) : AI := fun e σ R X => fa e σ (fun w σ1 => itW σ1 R w) X
theorem it_list {ρ : List Addr} {H : Hp} {a : Addr} {ws : List W} {stay : Sto → Prop}
    (h : ∀ ρ' σ' H', Go Z.T ρ H ρ' H' → Rel Z.K Z.T ρ' σ' H' → stay σ' → ∃ xs, SqL Z.K H' a xs ∧ WRs Z.K ρ' H' xs ws) : ItR Z ρ H (Itl Z.K a) ws stay := fun ρ' σ' H' g r st => by
  obtain ⟨xs, sq, wr⟩ := h ρ' σ' H' g r st
  refine ⟨fun i w hw => ?_, ⟨xs, sq, by rw [Paired.len wr]; exact Nat.le_refl _⟩⟩
  obtain ⟨x, hx, wx⟩ := Paired.get wr hw
  refine ⟨⟨xs, x, sq, hx⟩, fun y H2 yl => ?_⟩
  obtain ⟨rfl, hy⟩ := yl
  have := hy xs sq
  rw [hx] at this
  cases this
  exact ⟨.refl, r, wx⟩
theorem it_tup {ρ : List Addr} {H : Hp} {a : Addr} {ws : List W} {stay : Sto → Prop}
    (h : ∀ ρ' σ' H', Go Z.T ρ H ρ' H' → Rel Z.K Z.T ρ' σ' H' → stay σ' → ∃ xs, SqT Z.K H' a xs ∧ WRs Z.K ρ' H' xs ws) : ItR Z ρ H (Itt Z.K a) ws stay := fun ρ' σ' H' g r st => by
  obtain ⟨xs, sq, wr⟩ := h ρ' σ' H' g r st
  refine ⟨fun i w hw => ?_, ⟨xs, sq, by rw [Paired.len wr]; exact Nat.le_refl _⟩⟩
  obtain ⟨x, hx, wx⟩ := Paired.get wr hw
  refine ⟨⟨xs, x, sq, hx⟩, fun y H2 yl => ?_⟩
  obtain ⟨rfl, hy⟩ := yl
  have := hy xs sq
  rw [hx] at this
  cases this
  exact ⟨.refl, r, wx⟩
theorem it_dk {ρ : List Addr} {H : Hp} {a : Addr} {o : Obj} {kvs : List (Key × V)} {stay : Sto → Prop} (e : H a = some (.frz o (.dK kvs))) : ItR Z ρ H (Itk a o kvs) (kvs.map fun p => .d (kD p.1)) stay := fun ρ' σ' H' g r st => by
  have e' := g.lk _ _ _ e
  refine ⟨fun i w hw => ?_, ⟨e', by rw [List.length_map]; exact Nat.le_refl _⟩⟩
  rw [List.getElem?_map] at hw
  obtain ⟨p, hp, rfl⟩ := Option.map_eq_some_iff.mp hw
  refine ⟨⟨e', (List.getElem?_eq_some_iff.mp hp).1⟩, fun y H2 yl => ?_⟩
  obtain ⟨rfl, k, v, hk, rfl⟩ := yl
  rw [hp] at hk
  cases hk
  refine ⟨.refl, r, ?_⟩
  cases k with
  | inl i => exact Rp.int i
  | inr z => exact Rp.str z
theorem rp_keysV {ρ : List Addr} {H : Hp} : ∀ ks : List Key, RpAll K ρ H (ks.map kV) (ks.map kD)
  | [] => .nil
  | .inl i :: ks => .cons (.int i) (rp_keysV ks)
  | .inr z :: ks => .cons (.str z) (rp_keysV ks)
theorem it_dt {ρ : List Addr} {H : Hp} {a : Addr} {o : Obj} {kvs : List (List Key × V)} {stay : Sto → Prop} (e : H a = some (.frz o (.dT kvs))) : ItR Z ρ H (Itkt a o kvs) (kvs.map fun p => .d (kT p.1)) stay := fun ρ' σ' H' g r st => by
  have e' := g.lk _ _ _ e
  refine ⟨fun i w hw => ?_, ⟨e', by rw [List.length_map]; exact Nat.le_refl _⟩⟩
  rw [List.getElem?_map] at hw
  obtain ⟨p, hp, rfl⟩ := Option.map_eq_some_iff.mp hw
  refine ⟨⟨e', (List.getElem?_eq_some_iff.mp hp).1⟩, fun y H2 yl => ?_⟩
  obtain ⟨rfl, k, v, q, hk, rfl, hq⟩ := yl
  rw [hp] at hk
  cases hk
  exact ⟨.refl, r, Rp.tup (.of hq (keys_norow _)) (rp_keysV _)⟩
theorem prs_keyL {κ : Type} {f : κ → PyData} {ρ : List Addr} {H : Hp} : ∀ {hk : List (κ × V)} {kvs : List (PyData × W)}, PRs K ρ H (hk.map fun p => (f p.1, p.2)) kvs → (kvs.map fun p => W.d p.1) = hk.map fun p => W.d (f p.1)
  | [], _, h => by cases h; rfl
  | p :: hk, _, h => by
    cases h with
    | cons h t => rw [List.map_cons, List.map_cons, prs_keyL t, ← h.1]
theorem rps_keyL {κ : Type} {f : κ → PyData} {ρ : List Addr} {H : Hp} : ∀ {hk : List (κ × V)} {kvs : List (PyData × PyData)}, RpPs K ρ H (hk.map fun p => (f p.1, p.2)) kvs → (kvs.map fun p => W.d p.1) = hk.map fun p => W.d (f p.1)
  | [], _, h => by cases h; rfl
  | p :: hk, _, h => by
    cases h with
    | cons h t => rw [List.map_cons, List.map_cons, rps_keyL t]
theorem itW_sim {ρ : List Addr} {σ : Sto} {H : Hp} {x : V} {Ra : List W → (Sto → Prop) → Sto → Prop} {R : It → Hp → Prop} (rl : Rel Z.K Z.T ρ σ H) : ∀ {w : W}, WR Z.K ρ H x w → itW σ Ra w → KI Z ρ H Ra R →
    (∃ a, x = .ref a ∧ ((∃ xs, SqL Z.K H a xs ∧ R (Itl Z.K a) H) ∨ (∃ xs, SqT Z.K H a xs ∧ R (Itt Z.K a) H) ∨ IDk a H R)) ∨ ∃ z, x = .str z ∧ R (Its z) H
  | .d (.list ds), h, q, k => by
    have h : Rp Z.K ρ H x (.list ds) := h
    cases h with
    | lst h1 h2 =>
      refine .inl ⟨_, rfl, .inl ⟨_, .inl h1.2, k _ _ _ _ _ _ .refl rl (it_list fun ρ' σ' H' g r _ => ?_) q⟩⟩
      exact ⟨_, .inl (g.sqO rl h1).2, rpAll_wrs (g.rpAll rl h2)⟩
  | .d (.tuple ds), h, q, k => by
    obtain ⟨a, xs, rfl, h1, h2⟩ := h.tup
    refine .inl ⟨_, rfl, .inr (.inl ⟨_, .inl h1.rd, k _ _ _ _ _ _ .refl rl (it_tup fun ρ' σ' H' g r _ => ?_) q⟩)⟩
    exact ⟨_, .inl (g.tuA rl h1).rd, rpAll_wrs (g.rpAll rl h2)⟩
  | .d (.str z), h, q, k => by
    refine .inr ⟨z, h.str, k _ _ _ _ _ _ .refl rl (fun ρ' σ' H' g r _ => ⟨fun i w hw => ?_, ?_⟩) q⟩
    · rw [List.getElem?_map, Array.getElem?_toList] at hw
      obtain ⟨c, hc, rfl⟩ := Option.map_eq_some_iff.mp hw
      refine ⟨(Array.getElem?_eq_some_iff.mp hc).1, fun y H2 yl => ?_⟩
      obtain ⟨rfl, c', hc', rfl⟩ := yl
      rw [hc] at hc'
      cases hc'
      exact ⟨.refl, r, Rp.str _⟩
    · show z.cps.size ≤ _
      simp
  | .ref i, h, q, k => by
    obtain ⟨a, ha, rfl⟩ := h
    rcases q with ⟨ws, hc, q⟩ | ⟨t, kvs, hc, q⟩
    · obtain ⟨xs, e1, e2⟩ := rl.cell i a _ ha hc
      refine .inl ⟨_, rfl, .inl ⟨_, .inl (.inl e1), k _ _ _ _ _ _ .refl rl (it_list fun ρ' σ' H' g r st => ?_) q⟩⟩
      obtain ⟨ys, e3, e4⟩ := r.cell i a _ (g.at_ ha) st
      exact ⟨ys, .inl (.inl e3), e4⟩
    · have cr := rl.cell i a _ ha hc
      cases t with
      | false =>
        obtain ⟨hk, ⟨o, e1⟩, e2⟩ := cr
        rw [prs_keyL e2] at q
        exact .inl ⟨_, rfl, .inr (.inr (.inl ⟨o, hk, e1, k _ _ _ _ _ _ .refl rl (it_dk e1) q⟩))⟩
      | true =>
        obtain ⟨hk, ⟨o, e1⟩, e2⟩ := cr
        rw [prs_keyL e2] at q
        exact .inl ⟨_, rfl, .inr (.inr (.inr (.inl ⟨o, hk, e1, k _ _ _ _ _ _ .refl rl (it_dt e1) q⟩)))⟩
  | .d .none, _, q, _ => q.elim
  | .d (.bool _), _, q, _ => q.elim
  | .d (.int _), _, q, _ => q.elim
  | .d (.dict ds), h, q, k => by
    have h : Rp Z.K ρ H x (.dict ds) := h
    have q : Ra (ds.map fun p => .d p.1) (fun _ => True) σ := q
    cases h with
    | dK n h1 h2 =>
      rename_i ad hk
      rw [rps_keyL h2] at q
      rcases h1 with h1 | ⟨o, h1⟩
      · refine .inl ⟨_, rfl, .inr (.inr (.inr (.inr (.inl ⟨_, h1, fun o => ?_⟩))))⟩
        have g : Go Z.T ρ H ρ (upd H ad (.frz o (.dK hk))) := Go.lockD n h1 True.intro
        exact k _ _ _ _ _ _ g (rl.lockD n h1 (fun ps z => by cases z)) (it_dk upd_same) q
      · exact .inl ⟨_, rfl, .inr (.inr (.inl ⟨o, _, h1, k _ _ _ _ _ _ .refl rl (it_dk h1) q⟩))⟩
    | dT n h1 h2 =>
      rename_i ad hk
      rw [rps_keyL h2] at q
      rcases h1 with h1 | ⟨o, h1⟩
      · refine .inl ⟨_, rfl, .inr (.inr (.inr (.inr (.inr ⟨_, h1, fun o => ?_⟩))))⟩
        have g : Go Z.T ρ H ρ (upd H ad (.frz o (.dT hk))) := Go.lockD n h1 True.intro
        exact k _ _ _ _ _ _ g (rl.lockD n h1 (fun ps z => by cases z)) (it_dt upd_same) q
      · exact .inl ⟨_, rfl, .inr (.inr (.inr (.inl ⟨o, _, h1, k _ _ _ _ _ _ .refl rl (it_dt h1) q⟩)))⟩
  | .scr _, _, q, _ => q.elim
instance sim_iU [ia : SimE Z E ta fa] : SimI Z E (iU Z.K ta) (aIt fa) := ⟨fun r er h k kx =>
  ia.sim r er h (fun _ _ _ _ _ g r' v h' => itW_sim r' v h' (k.go g)) kx⟩
/-! ### range -/
def rngL (lo : Int) (n : Nat) : List W := (List.range n).map fun i => .d (.int (lo + (i : Nat)))
theorem it_rng {ρ : List Addr} {H : Hp} (lo : Int) (n : Nat) : ItR Z ρ H (Itr lo n) (rngL lo n) (fun _ => True) := fun ρ' σ' H' g r st => by
  refine ⟨fun i w hw => ?_, by show n ≤ _; simp [rngL]⟩
  unfold rngL at hw
  rw [List.getElem?_map] at hw
  obtain ⟨j, hj, rfl⟩ := Option.map_eq_some_iff.mp hw
  obtain ⟨hl, ej⟩ := List.getElem?_eq_some_iff.mp hj
  have : j = i := by simpa using ej.symm
  subst this
  refine ⟨show j < n by simpa using hl, fun y H2 yl => ?_⟩
  obtain ⟨rfl, rfl⟩ := yl
  exact ⟨.refl, r, Rp.int _⟩
def aR1 (fr : AA) : AI := fun e σ R X => fr e σ (fun ws σ1 => ∃ j : Int, ws = [.d (.int j)] ∧ -(2 ^ 62) ≤ j ∧ j < 2 ^ 62 ∧ R (rngL 0 j.toNat) (fun _ => True) σ1) X
def aR2 (fr : AA) : AI := fun e σ R X => fr e σ (fun ws σ1 => ∃ i j : Int, ws = [.d (.int i), .d (.int j)] ∧ (-(2 ^ 62) ≤ i ∧ i < 2 ^ 62 ∧ -(2 ^ 62) ≤ j ∧ j < 2 ^ 62) ∧ R (rngL i (j - i).toNat) (fun _ => True) σ1) X
instance sim_r1 {t : TA} {fr : AA} [ir : SimA Z E t fr] : SimI Z E (iRng1 t) (aR1 fr) := ⟨fun r er h k kx =>
  ir.sim r er h (fun _ _ _ _ _ g r' v h' => by
    obtain ⟨j, rfl, h1, h2, q⟩ := h'
    cases v with
    | cons v1 v2 =>
      cases v2
      rw [v1.int]
      exact ⟨j, rfl, h1, h2, k _ _ _ _ _ _ g r' (it_rng 0 _) q⟩) kx⟩
instance sim_r2 {t : TA} {fr : AA} [ir : SimA Z E t fr] : SimI Z E (iRng2 t) (aR2 fr) := ⟨fun r er h k kx =>
  ir.sim r er h (fun _ _ _ _ _ g r' v h' => by
    obtain ⟨i, j, rfl, h1, q⟩ := h'
    cases v with
    | cons v1 v2 =>
      cases v2 with
      | cons v2 v3 =>
        cases v3
        rw [v1.int, v2.int]
        exact ⟨i, j, rfl, h1, k _ _ _ _ _ _ g r' (it_rng i _) q⟩) kx⟩
/-! ### targets of comprehensions -/
class MemC (i : Nat) (vs : List Nat) : Prop where
  mem : i ∈ vs
instance memC0 {i : Nat} {vs : List Nat} : MemC i (i :: vs) := ⟨by simp⟩
instance memC1 {i j : Nat} {vs : List Nat} [h : MemC i vs] : MemC i (j :: vs) := ⟨by simp [h.mem]⟩
def Agree (vs : List Nat) (s s2 : L2.St) : Prop := s2.length = s.length ∧ ∀ j, j ∉ vs → s2[j]? = s[j]?
class TgtIn (g : TG) (vs : List Nat) : Prop where
  out : ∀ {v : V} {s : L2.St} {H : Hp} {M : L2.St → Hp → Prop}, g v s H M → g v s H fun s2 H2 => Agree vs s s2 ∧ M s2 H2
class TgtsIn (g : TGs) (vs : List Nat) : Prop where
  out : ∀ {v : List V} {s : L2.St} {H : Hp} {M : L2.St → Hp → Prop}, g v s H M → g v s H fun s2 H2 => Agree vs s s2 ∧ M s2 H2
theorem Agree.refl (vs : List Nat) (s : L2.St) : Agree vs s s := ⟨rfl, fun _ _ => rfl⟩
theorem Agree.trans {vs : List Nat} {a b c : L2.St} (h : Agree vs a b) (h' : Agree vs b c) : Agree vs a c := ⟨h'.1.trans h.1, fun j hj => (h'.2 j hj).trans (h.2 j hj)⟩
instance tgt_name {i : Nat} {vs : List Nat} [h : MemC i vs] : TgtIn (gName i) vs := ⟨fun q => ⟨⟨by simp, fun j hj => List.getElem?_set_ne fun (z : i = j) => hj (by rw [← z]; exact h.mem)⟩, q⟩⟩
instance tgt_nil {vs : List Nat} : TgtsIn gNil vs := ⟨fun q => ⟨q.1, .refl _ _, q.2⟩⟩
class TgMono (g : TG) : Prop where
  mono : ∀ {v : V} {s : L2.St} {H : Hp} {M M' : L2.St → Hp → Prop}, (∀ a b, M a b → M' a b) → g v s H M → g v s H M'
class TgsMono (g : TGs) : Prop where
  mono : ∀ {v : List V} {s : L2.St} {H : Hp} {M M' : L2.St → Hp → Prop}, (∀ a b, M a b → M' a b) → g v s H M → g v s H M'
instance tgm_name {i : Nat} : TgMono (gName i) := ⟨fun f q => f _ _ q⟩
instance tgm_nil : TgsMono gNil := ⟨fun f q => ⟨q.1, f _ _ q.2⟩⟩
instance tgm_cons {g : TG} {t : TGs} [a : TgMono g] [b : TgsMono t] : TgsMono (gCons g t) := ⟨fun f q => by
  obtain ⟨v, r, e, q⟩ := q
  exact ⟨v, r, e, a.mono (fun s H z => b.mono f z) q⟩⟩
instance tgm_tup {K : PySem.W.Frag} {n : Nat} {t : TGs} [b : TgsMono t] : TgMono (gTup K n t) := ⟨fun f q => by
  obtain ⟨a, xs, e, h1, h2, q⟩ := q
  exact ⟨a, xs, e, h1, h2, b.mono f q⟩⟩
instance tgt_cons {g : TG} {t : TGs} {vs : List Nat} [a : TgtIn g vs] [am : TgMono g] [b : TgtsIn t vs] [bm : TgsMono t] : TgtsIn (gCons g t) vs := ⟨fun {v s H M} q => by
  obtain ⟨x, r, e, q⟩ := q
  refine ⟨x, r, e, am.mono (fun s1 H1 z => ?_) (a.out q)⟩
  exact bm.mono (fun s2 H2 z2 => ⟨z.1.trans z2.1, z2.2⟩) (b.out z.2)⟩
instance tgt_tup {K : PySem.W.Frag} {n : Nat} {t : TGs} {vs : List Nat} [b : TgtsIn t vs] : TgtIn (gTup K n t) vs := ⟨fun q => by
  obtain ⟨a, xs, e, h1, h2, q⟩ := q
  exact ⟨a, xs, e, h1, h2, b.out q⟩⟩
theorem wipe_get (s : L2.St) : ∀ (vs : List Nat) (j : Nat), (wipe s vs)[j]? = if j ∈ vs then (s[j]?).map (fun _ => none) else s[j]?
  | [], j => by simp [wipe]
  | v :: vs, j => by
    unfold wipe
    by_cases h : j = v
    · subst h
      rw [if_pos (by simp)]
      by_cases hl : j < s.length
      · rw [List.getElem?_set_self (by rw [wipe_length]; exact hl), List.getElem?_eq_getElem hl]; rfl
      · rw [List.getElem?_eq_none (by rw [List.length_set, wipe_length]; omega), List.getElem?_eq_none (by omega)]; rfl
    · rw [List.getElem?_set_ne (Ne.symm h), wipe_get s vs j]
      simp [h]
theorem wipe_agree {vs : List Nat} {s s2 : L2.St} (h : Agree vs (wipe s vs) s2) : wipe s2 vs = wipe s vs := by
  apply List.ext_getElem?
  intro j
  rw [wipe_get s2, wipe_get s]
  by_cases hj : j ∈ vs
  · rw [if_pos hj, if_pos hj]
    have hl : s2.length = s.length := by rw [h.1, wipe_length]
    by_cases hl2 : j < s.length
    · rw [List.getElem?_eq_getElem hl2, List.getElem?_eq_getElem (by omega)]; rfl
    · rw [List.getElem?_eq_none (by omega), List.getElem?_eq_none (by omega)]
  · rw [if_neg hj, if_neg hj, h.2 j hj, wipe_get s, if_neg hj]
def wipeE (e : Ev) : List Nat → Ev
  | [] => e
  | v :: vs => (wipeE e vs).set v none
theorem er_wipe {K : PySem.W.Frag} {ρ : List Addr} {H : Hp} {s : L2.St} {e : Ev} (h : ER K ρ H s e) : ∀ vs : List Nat, ER K ρ H (wipe s vs) (wipeE e vs)
  | [] => h
  | v :: vs => Paired.set (by exact True.intro) v (er_wipe h vs)
end
end Aw

/-! AwB: comprehensions. -/
namespace Aw
open PySem PySem.Spec PyProof.Rows L2 Mw
/-- the turns of a list comprehension; the list that grows is cell n -/
def lcGo (ag : AG) (ft : AT) (fa : AE) (e0 : Ev) (n : Nat) (stay : Sto → Prop) (X : XQ) (Fin : Sto → Prop) : List W → Sto → Prop
  | [], σ => stay σ ∧ Fin σ
  | w :: r, σ => stay σ ∧ ag w e0 σ (fun e2 σ2 => ft e2 σ2 (fun b σ3 => if b = true then fa e2 σ3 (fun y σ4 => ∃ acc, σ4[n]? = some (.lst acc) ∧ acc.length < sizeLine ∧ lcGo ag ft fa e0 n stay X Fin r (σ4.set n (.lst (acc ++ [y])))) X else lcGo ag ft fa e0 n stay X Fin r σ3) X)
def aYes : AT := fun _ σ Q _ => Q true σ
/-- .. that stays -/
def aLc (ai : AI) (ag : AG) (ft : AT) (fa : AE) (vs : List Nat) : AE := fun e σ Q X => ai e σ (fun items stay σ1 =>
  lcGo ag ft fa (wipeE e vs) σ1.length stay X (fun σf => ∃ ws ds, σf[σ1.length]? = some (.lst ws) ∧ FrzAll σ1.length σf ws ds ∧ Shed σ1.length σ1 σf ∧ Q (.d (.list ds)) (σf.take σ1.length)) items (σ1 ++ [.lst []])) X
/-- .. that is a cell -/
def aLcC (ai : AI) (ag : AG) (ft : AT) (fa : AE) (vs : List Nat) : AE := fun e σ Q X => ai e σ (fun items stay σ1 =>
  lcGo ag ft fa (wipeE e vs) σ1.length stay X (fun σf => Q (.ref σ1.length) σf) items (σ1 ++ [.lst []])) X
def tLcC (wi : TI) (g : TG) (tt : TT) (te : TE) (vs : List Nat) : TE := tLc wi g tt te vs
section
variable {Z : Zx} {E : L2.St → XK} {wi : TI} {ai : AI} {g : TG} {ag : AG} {tt : TT} {ft : AT} {ta : TE} {fa : AE} {vs : List Nat}
instance sim_yes : SimT Z E tYes aYes := ⟨fun r er h k _ => k _ _ _ _ .refl r h⟩
theorem lc_sim [ig : SimG Z g ag] [it : SimT Z E tt ft] [ia : SimE Z E ta fa] [tin : TgtIn g vs] [tm : TgMono g] {ρ ρ1 : List Addr} {σ σ1 : Sto} {H H1 : Hp} {s : L2.St} {e : Ev} {Ea : XQ} {Fin : Sto → Prop} {Q : VK} {J : It} {items : List W} {stay : Sto → Prop}
    (r : Rel Z.K Z.T ρ σ H) (er : ER Z.K ρ H s e) (kx : ∀ s2, KX Z ρ H Ea (E s2)) (g1 : Go Z.T ρ H ρ1 H1) (r1 : Rel Z.K Z.T ρ1 σ1 H1) (itr : ItR Z ρ1 H1 J items stay)
    (h1 : lcGo ag ft fa (wipeE e vs) σ1.length stay Ea Fin items (σ1 ++ [.lst []])) (D : Addr) (nD : H1 D = none)
    (fin : ∀ ρ' σ' H', Go Z.T ρ1 H1 ρ' H' → Rel Z.K Z.T ρ' σ' H' → ρ'[σ1.length]? = some D → Fin σ' → Q (.ref D) H') :
    ∃ W : Nat → Nat → Hp → Prop, (∃ m, W 0 m (upd H1 D (.lst []))) ∧ ∀ i m H, W i m H →
      (J.stop i H ∧ Q (.ref D) H) ∨ (J.go i H ∧ ∃ Nx : Hp → Prop, (∀ H', Nx H' → ∃ m', m' < m ∧ W (i + 1) m' H') ∧ ∀ x H', J.yld i H x H' → g x (wipe s vs) H' fun σ2 H2 => wipe σ2 vs = wipe s vs ∧ tt σ2 H2 fun b H3 =>
        if b = true then ta σ2 H3 fun y H4 => ∃ acc, H4 D = some (.lst acc) ∧ acc.length < sizeLine ∧ Nx (upd H4 D (.lst (acc ++ [y]))) else Nx H3) := by
  have gc : Go Z.T ρ1 H1 (ρ1 ++ [D]) (upd H1 D (.lst [])) := Go.cell nD
  have rc : Rel Z.K Z.T (ρ1 ++ [D]) (σ1 ++ [.lst []]) (upd H1 D (.lst [])) := r1.cell' nD ⟨[], upd_same, .nil⟩
  have hD : (ρ1 ++ [D])[σ1.length]? = some D := by rw [r1.len, List.getElem?_append_right (Nat.le_refl _), Nat.sub_self]; rfl
  refine ⟨fun i m H' => m = items.length - i ∧ i ≤ items.length ∧ ∃ ρ' σ', Go Z.T (ρ1 ++ [D]) (upd H1 D (.lst [])) ρ' H' ∧ Rel Z.K Z.T ρ' σ' H' ∧ lcGo ag ft fa (wipeE e vs) σ1.length stay Ea Fin (items.drop i) σ',
    ⟨_, rfl, Nat.zero_le _, _, _, .refl, rc, h1⟩, ?_⟩
  rintro i m H' ⟨rfl, hi, ρ', σ', g', r', h'⟩
  have g1' : Go Z.T ρ1 H1 ρ' H' := gc.trans g'
  by_cases hlt : i < items.length
  · rw [List.drop_eq_getElem_cons hlt] at h'
    obtain ⟨st, h'⟩ := h'
    obtain ⟨a1, a2⟩ := (itr _ _ _ g1' r' st).1 i items[i] (List.getElem?_eq_getElem hlt)
    refine .inr ⟨a1, fun H2 => i + 1 ≤ items.length ∧ ∃ ρ' σ', Go Z.T (ρ1 ++ [D]) (upd H1 D (.lst [])) ρ' H2 ∧ Rel Z.K Z.T ρ' σ' H2 ∧ lcGo ag ft fa (wipeE e vs) σ1.length stay Ea Fin (items.drop (i + 1)) σ', fun H2 n => ⟨_, by omega, rfl, n.1, n.2⟩, fun x H2 y => ?_⟩
    obtain ⟨g2, r2, v2⟩ := a2 x H2 y
    have g12 : Go Z.T ρ H ρ' H2 := (g1.trans g1').trans g2
    have er2 : ER Z.K ρ' H2 (wipe s vs) (wipeE e vs) := er_wipe (g12.er r er) vs
    refine tm.mono (fun s3 H3 z => ⟨wipe_agree z.1, z.2⟩) (tin.out (ig.sim r2 er2 v2 h' fun ρ3 σ3 H3 s3 e3 g3 r3 er3 h3 => ?_))
    have g13 := g12.trans g3
    refine it.sim r3 er3 h3 (fun ρ4 σ4 H4 b g4 r4 h4 => ?_) ((kx s3).go g13)
    have g14 := g13.trans g4
    cases b with
    | false => exact ⟨hlt, ρ4, σ4, ((g'.trans g2).trans g3).trans g4, r4, h4⟩
    | true =>
      refine ia.sim r4 (g4.er r3 er3) h4 (fun ρ5 σ5 H5 v w g5 r5 v5 h5 => ?_) ((kx s3).go g14)
      obtain ⟨acc, hc, hl, h5⟩ := h5
      have gD : Go Z.T (ρ1 ++ [D]) (upd H1 D (.lst [])) ρ5 H5 := (((g'.trans g2).trans g3).trans g4).trans g5
      have hD5 := gD.at_ hD
      obtain ⟨xs, e1, e2⟩ := r5.cell _ D _ hD5 hc
      have gp : Go Z.T ρ5 H5 ρ5 (upd H5 D (.lst (xs ++ [v]))) := Go.put (List.mem_of_getElem? hD5) e1
      exact ⟨xs, e1, by rw [Paired.len e2]; exact hl, hlt, ρ5, _, gD.trans gp, r5.put (c := .lst (acc ++ [w])) hD5 ⟨_, upd_same, gp.wrs r5 (paired_app e2 (.cons v5 .nil))⟩, h5⟩
  · have ei : i = items.length := by omega
    subst ei
    rw [List.drop_length] at h'
    obtain ⟨st, h'⟩ := h'
    exact .inl ⟨(itr _ _ _ g1' r' st).2, fin _ _ _ g1' r' (g'.at_ hD) h'⟩
instance sim_lc {F : XK} [ii : SimI Z (fun _ => F) wi ai] [ig : SimG Z g ag] [it : SimT Z (fun _ => F) tt ft] [ia : SimE Z (fun _ => F) ta fa] [tin : TgtIn g vs] [tm : TgMono g] : SimE Z (fun _ => F) (tLc wi g tt ta vs) (aLc ai ag ft fa vs) := ⟨fun r er h kq kx =>
  ii.sim r er h (fun ρ1 σ1 H1 J items stay g1 r1 itr h1 D nD => lc_sim (E := fun _ => F) r er (fun _ => kx) g1 r1 itr h1 D nD fun ρ' σ' H' g' r' hD f => by
    obtain ⟨ws, ds, hw, hf, sh, q⟩ := f
    have gt := g'.take (n := σ1.length) r1.len
    exact kq.d (g1.trans gt) (r1.take rfl r' sh) ((Frz.lst (Nat.le_refl _) hw hf).rp r' ⟨D, hD, rfl⟩) q) kx⟩
instance sim_lcC {F : XK} [ii : SimI Z (fun _ => F) wi ai] [ig : SimG Z g ag] [it : SimT Z (fun _ => F) tt ft] [ia : SimE Z (fun _ => F) ta fa] [tin : TgtIn g vs] [tm : TgMono g] : SimE Z (fun _ => F) (tLcC wi g tt ta vs) (aLcC ai ag ft fa vs) := ⟨fun r er h kq kx =>
  ii.sim r er h (fun ρ1 σ1 H1 J items stay g1 r1 itr h1 D nD => lc_sim (E := fun _ => F) r er (fun _ => kx) g1 r1 itr h1 D nD fun ρ' σ' H' g' r' hD q =>
    kq.r (g1.trans g') r' hD q) kx⟩
/-! ### generator expressions -/
/-- the turns: an accumulator; stp tells the next one, or that it ends here -/
def gnGo {α : Type} (ag : AG) (ft : AT) (fa : AE) (e0 : Ev) (stay : Sto → Prop) (X : XQ) (stp : α → W → (α → Prop) → Sto → Prop) (Fin : α → Sto → Prop) : List W → α → Sto → Prop
  | [], a, σ => stay σ ∧ Fin a σ
  | w :: r, a, σ => stay σ ∧ ag w e0 σ (fun e2 σ2 => ft e2 σ2 (fun b σ3 => if b = true then fa e2 σ3 (fun y σ4 => stp a y (fun a' => gnGo ag ft fa e0 stay X stp Fin r a' σ4) σ4) X else gnGo ag ft fa e0 stay X stp Fin r a σ3) X)
theorem gn_sim {α β : Type} {R : List Addr → Hp → β → α → Prop} {stC : β → V → Option β} {Fi : β → V → Hp → Prop} {En : β → Hp → Prop} {stp : α → W → (α → Prop) → Sto → Prop} {Fin : α → Sto → Prop}
    [ig : SimG Z g ag] [it : SimT Z E tt ft] [ia : SimE Z E ta fa] [tin : TgtIn g vs] [tm : TgMono g] {ρ ρ1 : List Addr} {σ σ1 : Sto} {H H1 : Hp} {s : L2.St} {e : Ev} {Ea : XQ} {J : It} {items : List W} {stay : Sto → Prop} {b0 : β} {a0 : α}
    (r : Rel Z.K Z.T ρ σ H) (er : ER Z.K ρ H s e) (kx : ∀ s2, KX Z ρ H Ea (E s2)) (g1 : Go Z.T ρ H ρ1 H1) (r1 : Rel Z.K Z.T ρ1 σ1 H1) (itr : ItR Z ρ1 H1 J items stay) (rab : R ρ1 H1 b0 a0)
    (go : ∀ ρ ρ' σ H H' b a, Rel Z.K Z.T ρ σ H → Go Z.T ρ H ρ' H' → R ρ H b a → R ρ' H' b a)
    (h1 : gnGo ag ft fa (wipeE e vs) stay Ea stp Fin items a0 σ1)
    (step : ∀ ρ' σ' H' b a v w N, Go Z.T ρ1 H1 ρ' H' → Rel Z.K Z.T ρ' σ' H' → R ρ' H' b a → WR Z.K ρ' H' v w → stp a w N σ' → (stC b v = none ∧ Fi b v H') ∨ ∃ b' a', stC b v = some b' ∧ R ρ' H' b' a' ∧ N a')
    (fin : ∀ ρ' σ' H' b a, Go Z.T ρ1 H1 ρ' H' → Rel Z.K Z.T ρ' σ' H' → R ρ' H' b a → Fin a σ' → En b H') :
    ∃ W : Nat → Nat → β → Hp → Prop, (∃ m, W 0 m b0 H1) ∧ turns J g tt ta vs stC Fi En s W := by
  refine ⟨fun i m b H' => m = items.length - i ∧ i ≤ items.length ∧ ∃ ρ' σ' a, Go Z.T ρ1 H1 ρ' H' ∧ Rel Z.K Z.T ρ' σ' H' ∧ R ρ' H' b a ∧ gnGo ag ft fa (wipeE e vs) stay Ea stp Fin (items.drop i) a σ',
    ⟨_, rfl, Nat.zero_le _, _, _, a0, .refl, r1, rab, h1⟩, ?_⟩
  rintro i m b H' ⟨rfl, hi, ρ', σ', a, g', r', rb, h'⟩
  by_cases hlt : i < items.length
  · rw [List.drop_eq_getElem_cons hlt] at h'
    obtain ⟨st, h'⟩ := h'
    obtain ⟨a1, a2⟩ := (itr _ _ _ g' r' st).1 i items[i] (List.getElem?_eq_getElem hlt)
    refine .inr ⟨a1, fun b2 H2 => i + 1 ≤ items.length ∧ ∃ ρ' σ' a, Go Z.T ρ1 H1 ρ' H2 ∧ Rel Z.K Z.T ρ' σ' H2 ∧ R ρ' H2 b2 a ∧ gnGo ag ft fa (wipeE e vs) stay Ea stp Fin (items.drop (i + 1)) a σ', fun b2 H2 n => ⟨_, by omega, rfl, n.1, n.2⟩, fun x H2 y => ?_⟩
    obtain ⟨g2, r2, v2⟩ := a2 x H2 y
    have g12 : Go Z.T ρ H ρ' H2 := (g1.trans g').trans g2
    have er2 : ER Z.K ρ' H2 (wipe s vs) (wipeE e vs) := er_wipe (g12.er r er) vs
    refine tm.mono (fun s3 H3 z => ⟨wipe_agree z.1, z.2⟩) (tin.out (ig.sim r2 er2 v2 h' fun ρ3 σ3 H3 s3 e3 g3 r3 er3 h3 => ?_))
    have g13 := g12.trans g3
    refine it.sim r3 er3 h3 (fun ρ4 σ4 H4 c g4 r4 h4 => ?_) ((kx s3).go g13)
    have g14 := g13.trans g4
    have g24 : Go Z.T ρ' H' ρ4 H4 := (g2.trans g3).trans g4
    cases c with
    | false => exact ⟨hlt, ρ4, σ4, a, g'.trans g24, r4, go _ _ _ _ _ _ _ r' g24 rb, h4⟩
    | true =>
      refine ia.sim r4 (g4.er r3 er3) h4 (fun ρ5 σ5 H5 v w g5 r5 v5 h5 => ?_) ((kx s3).go g14)
      have g25 := g24.trans g5
      rcases step ρ5 σ5 H5 b a v w _ (g'.trans g25) r5 (go _ _ _ _ _ _ _ r' g25 rb) v5 h5 with z | ⟨b', a', z1, z2, z3⟩
      · exact .inl z
      · exact .inr ⟨b', z1, hlt, ρ5, σ5, a', g'.trans g25, r5, z2, z3⟩
  · have ei : i = items.length := by omega
    subst ei
    rw [List.drop_length] at h'
    obtain ⟨st, h'⟩ := h'
    exact .inl ⟨(itr _ _ _ g' r' st).2, fin _ _ _ _ _ g' r' rb h'⟩
/-- tuple(elt for ..) -/
def aTupG (ai : AI) (ag : AG) (ft : AT) (fa : AE) (vs : List Nat) : AE := fun e σ Q X => ai e σ (fun items stay σ1 =>
  gnGo ag ft fa (wipeE e vs) stay X (fun (a : List PyData) w N _ => ∃ d, w = .d d ∧ a.length < sizeLine ∧ N (a ++ [d])) (fun a σf => Q (.d (.tuple a)) σf) items [] σ1) X
def aAllG (ai : AI) (ag : AG) (ft : AT) (fa : AE) (vs : List Nat) (go : Bool) : AE := fun e σ Q X => ai e σ (fun items stay σ1 =>
  gnGo ag ft fa (wipeE e vs) stay X (fun (_ : Unit) w N σ' => ∃ b, w = .d (.bool b) ∧ if b = go then N () else Q (.d (.bool b)) σ') (fun _ σf => Q (.d (.bool go)) σf) items () σ1) X
class TabIn (Z : Zx) (P : Addr) : Prop where
  mem : P ∈ Z.T.tb
instance sim_tupG {F : XK} {P : Addr} [tb : TabIn Z P] [ii : SimI Z (fun _ => F) wi ai] [ig : SimG Z g ag] [it : SimT Z (fun _ => F) tt ft] [ia : SimE Z (fun _ => F) ta fa] [tin : TgtIn g vs] [tm : TgMono g] : SimE Z (fun _ => F) (tTupG P wi g tt ta vs) (aTupG ai ag ft fa vs) := ⟨fun r er h kq kx =>
  ii.sim r er h (fun ρ1 σ1 H1 J items stay g1 r1 itr h1 => by
    refine ⟨r1.tb P tb.mem, fun H2 gt => ?_⟩
    have gr := Grw.one r1.tb tb.mem gt
    have g2 : Go Z.T ρ1 H1 ρ1 H2 := Go.grw r1.tb gr
    refine gn_sim (E := fun _ => F) (R := fun ρ H (b : List V) (a : List PyData) => RpAll Z.K ρ H b a) r er (fun _ => kx) (g1.trans g2) (r1.grw gr) (itr.go g2) .nil (fun _ _ _ _ _ _ _ r g h => g.rpAll r h) h1 (fun ρ' σ' H' b a v w N g' r' rb v' q => ?_) fun ρ' σ' H' b a g' r' rb q => ?_
    · obtain ⟨d, rfl, hl, q⟩ := q
      refine .inr ⟨b ++ [v], a ++ [d], ?_, rpAll_app rb (.cons v' .nil), q⟩
      show (if b.length < sizeLine then some (b ++ [v]) else none) = _
      rw [if_pos (by rw [rpAll_len rb]; exact hl)]
    · exact (kq.go ((g1.trans g2).trans g')).layT r' rb q) kx⟩
theorem all_sim {F : XK} {P : Addr} {go : Bool} [tb : TabIn Z P] [ii : SimI Z (fun _ => F) wi ai] [ig : SimG Z g ag] [it : SimT Z (fun _ => F) tt ft] [ia : SimE Z (fun _ => F) ta fa] [tin : TgtIn g vs] [tm : TgMono g]
    {ρ : List Addr} {σ : Sto} {H : Hp} {s : L2.St} {e : Ev} {Qa : QK} {Ea : XQ} {Q : VK} (r : Rel Z.K Z.T ρ σ H) (er : ER Z.K ρ H s e) (h : aAllG ai ag ft fa vs go e σ Qa Ea) (kq : KQ Z ρ H Qa Q) (kx : KX Z ρ H Ea F) :
    wi s H fun J H1 => GxR.TabG H1 P ∧ ∀ H2, GxR.Tabbed P H1 H2 →
      ∃ W : Nat → Nat → Unit → Hp → Prop, (∃ m, W 0 m () H2) ∧ turns J g tt ta vs (stpA go) (fun _ y H => y = .bl (!go) ∧ Q (.bl (!go)) H) (fun _ H => Q (.bl go) H) s W :=
  ii.sim r er h (fun ρ1 σ1 H1 J items stay g1 r1 itr h1 => by
    refine ⟨r1.tb P tb.mem, fun H2 gt => ?_⟩
    have gr := Grw.one r1.tb tb.mem gt
    have g2 : Go Z.T ρ1 H1 ρ1 H2 := Go.grw r1.tb gr
    refine gn_sim (E := fun _ => F) (R := fun ρ H (b : Unit) (a : Unit) => True) r er (fun _ => kx) (g1.trans g2) (r1.grw gr) (itr.go g2) True.intro (fun _ _ _ _ _ _ _ r g h => h) h1 (fun ρ' σ' H' b a v w N g' r' rb v' q => ?_) fun ρ' σ' H' b a g' r' rb q => ?_
    · obtain ⟨c, rfl, q⟩ := q
      rw [v'.bool]
      by_cases hc : c = go
      · subst hc
        rw [if_pos rfl] at q
        exact .inr ⟨(), (), if_pos rfl, True.intro, q⟩
      · rw [if_neg hc] at q
        have : c = !go := by cases c <;> cases go <;> first | rfl | exact absurd rfl hc
        subst this
        exact .inl ⟨if_neg (fun z => hc (V.bl.inj z)), rfl, kq.d ((g1.trans g2).trans g') r' (Rp.bl _) q⟩
    · exact kq.d ((g1.trans g2).trans g') r' (Rp.bl _) q) kx
instance sim_allG {F : XK} {P : Addr} [tb : TabIn Z P] [ii : SimI Z (fun _ => F) wi ai] [ig : SimG Z g ag] [it : SimT Z (fun _ => F) tt ft] [ia : SimE Z (fun _ => F) ta fa] [tin : TgtIn g vs] [tm : TgMono g] : SimE Z (fun _ => F) (tAllG P wi g tt ta vs) (aAllG ai ag ft fa vs true) := ⟨fun r er h kq kx => all_sim (go := true) r er h kq kx⟩
instance sim_anyG {F : XK} {P : Addr} [tb : TabIn Z P] [ii : SimI Z (fun _ => F) wi ai] [ig : SimG Z g ag] [it : SimT Z (fun _ => F) tt ft] [ia : SimE Z (fun _ => F) ta fa] [tin : TgtIn g vs] [tm : TgMono g] : SimE Z (fun _ => F) (tAnyG P wi g tt ta vs) (aAllG ai ag ft fa vs false) := ⟨fun r er h kq kx => all_sim (go := false) r er h kq kx⟩
/-! ### dict comprehensions, keys that are tuples -/
noncomputable def dcGo (ag : AG) (ft : AT) (fk fv : AE) (e0 : Ev) (n : Nat) (stay : Sto → Prop) (X : XQ) (Fin : Sto → Prop) : List W → Sto → Prop
  | [], σ => stay σ ∧ Fin σ
  | w :: r, σ => stay σ ∧ ag w e0 σ (fun e2 σ2 => ft e2 σ2 (fun b σ3 => if b = true then fk e2 σ3 (fun y σ4 => fv e2 σ4 (fun z σ5 => ∃ kd acc, y = .d kd ∧ isKT kd = true ∧ σ5[n]? = some (.dct true acc) ∧ acc.length < sizeLine ∧ dcGo ag ft fk fv e0 n stay X Fin r (σ5.set n (.dct true (dput acc kd z)))) X) X else dcGo ag ft fk fv e0 n stay X Fin r σ3) X)
/-- a dict comprehension makes a cell -/
noncomputable def aDcT (ai : AI) (ag : AG) (ft : AT) (fk fv : AE) (vs : List Nat) : AE := fun e σ Q X => ai e σ (fun items stay σ1 =>
  dcGo ag ft fk fv (wipeE e vs) σ1.length stay X (fun σf => Q (.ref σ1.length) σf) items (σ1 ++ [.dct true []])) X
instance sim_dcT {F : XK} {tb : TE} {fb : AE} [ii : SimI Z (fun _ => F) wi ai] [ig : SimG Z g ag] [it : SimT Z (fun _ => F) tt ft] [ia : SimE Z (fun _ => F) ta fa] [ib : SimE Z (fun _ => F) tb fb] [tin : TgtIn g vs] [tm : TgMono g] : SimE Z (fun _ => F) (tDcT wi g tt ta tb vs) (aDcT ai ag ft fa fb vs) := ⟨fun {ρ σ H s e Qa Ea Q} r er h kq kx =>
  ii.sim r er h (fun ρ1 σ1 H1 J items stay g1 r1 itr h1 D nD => by
    have gc : Go Z.T ρ1 H1 (ρ1 ++ [D]) (upd H1 D (.dT [])) := Go.cell nD
    have rc : Rel Z.K Z.T (ρ1 ++ [D]) (σ1 ++ [.dct true []]) (upd H1 D (.dT [])) := r1.cell' nD ⟨[], upd_same, .nil⟩
    have hD : (ρ1 ++ [D])[σ1.length]? = some D := by rw [r1.len, List.getElem?_append_right (Nat.le_refl _), Nat.sub_self]; rfl
    refine ⟨fun i m H' => m = items.length - i ∧ i ≤ items.length ∧ ∃ ρ' σ', Go Z.T (ρ1 ++ [D]) (upd H1 D (.dT [])) ρ' H' ∧ Rel Z.K Z.T ρ' σ' H' ∧ dcGo ag ft fa fb (wipeE e vs) σ1.length stay Ea (fun σf => Qa (.ref σ1.length) σf) (items.drop i) σ',
      ⟨_, rfl, Nat.zero_le _, _, _, .refl, rc, h1⟩, ?_⟩
    rintro i m H' ⟨rfl, hi, ρ', σ', g', r', h'⟩
    have g1' : Go Z.T ρ1 H1 ρ' H' := gc.trans g'
    by_cases hlt : i < items.length
    · rw [List.drop_eq_getElem_cons hlt] at h'
      obtain ⟨st, h'⟩ := h'
      obtain ⟨a1, a2⟩ := (itr _ _ _ g1' r' st).1 i items[i] (List.getElem?_eq_getElem hlt)
      refine .inr ⟨a1, fun H2 => i + 1 ≤ items.length ∧ ∃ ρ' σ', Go Z.T (ρ1 ++ [D]) (upd H1 D (.dT [])) ρ' H2 ∧ Rel Z.K Z.T ρ' σ' H2 ∧ dcGo ag ft fa fb (wipeE e vs) σ1.length stay Ea (fun σf => Qa (.ref σ1.length) σf) (items.drop (i + 1)) σ', fun H2 n => ⟨_, by omega, rfl, n.1, n.2⟩, fun x H2 y => ?_⟩
      obtain ⟨g2, r2, v2⟩ := a2 x H2 y
      have g12 : Go Z.T ρ H ρ' H2 := (g1.trans g1').trans g2
      have er2 : ER Z.K ρ' H2 (wipe s vs) (wipeE e vs) := er_wipe (g12.er r er) vs
      refine tm.mono (fun s3 H3 z => ⟨wipe_agree z.1, z.2⟩) (tin.out (ig.sim r2 er2 v2 h' fun ρ3 σ3 H3 s3 e3 g3 r3 er3 h3 => ?_))
      have g13 := g12.trans g3
      refine it.sim r3 er3 h3 (fun ρ4 σ4 H4 b g4 r4 h4 => ?_) (kx.go g13)
      have g14 := g13.trans g4
      cases b with
      | false => exact ⟨hlt, ρ4, σ4, ((g'.trans g2).trans g3).trans g4, r4, h4⟩
      | true =>
        refine ia.sim r4 (g4.er r3 er3) h4 (fun ρ5 σ5 H5 v w g5 r5 v5 h5 => ?_) (kx.go g14)
        have g15 := g14.trans g5
        refine ib.sim r5 ((g4.trans g5).er r3 er3) h5 (fun ρ6 σ6 H6 v' w' g6 r6 v6 h6 => ?_) (kx.go g15)
        obtain ⟨kd, acc, rfl, hk, hc, hl, h6⟩ := h6
        have gD : Go Z.T (ρ1 ++ [D]) (upd H1 D (.dT [])) ρ6 H6 := ((((g'.trans g2).trans g3).trans g4).trans g5).trans g6
        have hD6 := gD.at_ hD
        obtain ⟨hkv, e1, e2⟩ := r6.cell _ D _ hD6 hc
        obtain ⟨ks, rfl⟩ := isKT_of hk
        obtain ⟨bk, rfl, hb⟩ := rp_keyT (g6.rp r5 v5)
        have gp : Go Z.T ρ6 H6 ρ6 (upd H6 D (.dT (putK hkv ks v'))) := Go.put (List.mem_of_getElem? hD6) e1
        exact ⟨hkv, ks, bk, rfl, hb, e1, by rw [prs_len e2]; exact hl, hlt, ρ6, _, gD.trans gp, r6.put (c := .dct true (dput acc (kT ks) w')) hD6 ⟨_, upd_same, gp.prs r6 (prs_put (fun _ _ => kT_inj) ks v6 e2)⟩, h6⟩
    · have ei : i = items.length := by omega
      subst ei
      rw [List.drop_length] at h'
      obtain ⟨st, h'⟩ := h'
      exact .inl ⟨(itr _ _ _ g1' r' st).2, kq.r (g1.trans g1') r' (g'.at_ hD) h'⟩) kx⟩
end
end Aw

/-! AwC: built-ins, methods, displays. -/
namespace Aw
open PySem PySem.Spec PyProof.Rows L2 Mw
section
variable {X : Cx} {K : PySem.W.Frag} {k : Nat} {Z : Zx} {E : L2.St → XK} {ta tb tc : TE} {fa fb fc : AE} {t : TA} {fr : AA}
theorem wrs1 {ρ : List Addr} {H : Hp} {xs : List V} {w : W} (h : WRs K ρ H xs [w]) : ∃ x, xs = [x] ∧ WR K ρ H x w := by
  cases h with
  | cons h t => cases t; exact ⟨_, rfl, h⟩
/-! ### len -/
def rLenU (K : PySem.W.Frag) : List V → Hp → VK → Prop := fun xs H Q => (∃ p ys, xs = [.ref p] ∧ (SqL K H p ys ∨ SqT K H p ys) ∧ Q (.int ys.length) H) ∨ (∃ z, xs = [.str z] ∧ z.length ≤ sizeLine ∧ Q (.int z.length) H)
theorem call_lenU (hK : X.K = K) : CallR X (.builtin "len") (rLenU K) := by subst hK; exact call_len_seq.or call_len_str
def lenW : List W → Sto → QK → Prop := fun ws σ Q => ∃ w, ws = [w] ∧ match w with
  | .d (.str z) => z.length ≤ sizeLine ∧ Q (.d (.int z.length)) σ
  | _ => ∃ ys, itemsOf σ w = some ys ∧ Q (.d (.int ys.length)) σ
instance sim_lenU : SimC Z (rLenU Z.K) lenW := ⟨fun {ρ σ H xs ws Qa Q} rl v q kq => by
  obtain ⟨w, rfl, q⟩ := q
  obtain ⟨x, rfl, v1⟩ := wrs1 v
  have gen : (∃ ys, itemsOf σ w = some ys ∧ Qa (.d (.int ys.length)) σ) → rLenU Z.K [x] H Q := fun ⟨ys, h1, h2⟩ => by
    obtain ⟨a, xs, rfl, hr, hw⟩ := itemsOf_rd rl v1 h1
    refine .inl ⟨a, xs, rfl, hr.elim (fun z => .inl (.inl z)) (fun ⟨_, _, z⟩ => .inr (.inl z.rd)), ?_⟩
    rw [Paired.len hw]
    exact kq.d .refl rl (Rp.int _) h2
  cases w with
  | ref i => exact gen q
  | scr i => exact gen q
  | d y =>
    cases y <;> first | exact gen q | skip
    rw [v1.str]
    exact .inr ⟨_, rfl, q.1, kq.d .refl rl (Rp.int _) q.2⟩⟩
/-! ### list(x), tuple(x) -/
def rListU (K : PySem.W.Frag) : List V → Hp → VK → Prop := fun xs H Q => ∃ p ys, xs = [.ref p] ∧ (SqL K H p ys ∨ SqT K H p ys) ∧ ∀ l, H l = none → Q (.ref l) (upd H l (.lst ys))
theorem call_listU (hK : X.K = K) : CallR X (.type "list") (rListU K) := by subst hK; exact call_list_of
/-- .. to be a cell -/
def rListC (K : PySem.W.Frag) : List V → Hp → VK → Prop := rListU K
theorem call_listC (hK : X.K = K) : CallR X (.type "list") (rListC K) := call_listU hK
def listW : List W → Sto → QK → Prop := fun ws σ Q => ∃ w ys ds, ws = [w] ∧ itemsOf σ w = some ys ∧ pures ys = some ds ∧ Q (.d (.list ds)) σ
def listCW : List W → Sto → QK → Prop := fun ws σ Q => ∃ w ys, ws = [w] ∧ itemsOf σ w = some ys ∧ Q (.ref σ.length) (σ ++ [.lst ys])
instance sim_listU : SimC Z (rListU Z.K) listW := ⟨fun {ρ σ H xs ws Qa Q} rl v q kq => by
  obtain ⟨w, ys, ds, rfl, h1, h2, q⟩ := q
  cases v with
  | cons v1 v2 =>
    cases v2
    obtain ⟨a, xs, rfl, hr, hw⟩ := itemsOf_rd rl v1 h1
    exact ⟨a, xs, rfl, hr.elim (fun z => .inl (.inl z)) (fun ⟨_, _, z⟩ => .inr (.inl z.rd)), fun p n => kq.layL rl n (pures_rp hw h2) q⟩⟩
instance sim_listC : SimC Z (rListC Z.K) listCW := ⟨fun {ρ σ H xs ws Qa Q} rl v q kq => by
  obtain ⟨w, ys, rfl, h1, q⟩ := q
  cases v with
  | cons v1 v2 =>
    cases v2
    obtain ⟨a, xs, rfl, hr, hw⟩ := itemsOf_rd rl v1 h1
    exact ⟨a, xs, rfl, hr.elim (fun z => .inl (.inl z)) (fun ⟨_, _, z⟩ => .inr (.inl z.rd)), fun p n => kq.layC rl n hw q⟩⟩
def rTupleU (K : PySem.W.Frag) : List V → Hp → VK → Prop := fun xs H Q => ∃ p ys, xs = [.ref p] ∧ ((SqL K H p ys ∧ LayT H ys Q) ∨ (SqT K H p ys ∧ Q (.ref p) H))
theorem call_tupleU (hK : X.K = K) : CallR X (.type "tuple") (rTupleU K) := by subst hK; exact call_tupleF
def tupleW : List W → Sto → QK → Prop := fun ws σ Q => ∃ w ys ds, ws = [w] ∧ itemsOf σ w = some ys ∧ pures ys = some ds ∧ Q (.d (.tuple ds)) σ
instance sim_tupleU : SimC Z (rTupleU Z.K) tupleW := ⟨fun {ρ σ H xs ws Qa Q} rl v q kq => by
  obtain ⟨w, ys, ds, rfl, h1, h2, q⟩ := q
  cases v with
  | cons v1 v2 =>
    cases v2
    obtain ⟨a, xs, rfl, hr, hw⟩ := itemsOf_rd rl v1 h1
    have rp := pures_rp hw h2
    refine ⟨a, xs, rfl, hr.elim (fun z => .inl ⟨.inl z, kq.layT rl rp q⟩) (fun ⟨es, e, z⟩ => .inr ⟨.inl z.rd, kq.d .refl rl (Rp.tup (by have e2 := pures_map es; rw [← e, h2] at e2; cases e2; exact z) rp) q⟩)⟩⟩
/-! ### ord, int -/
def rOrdU : List V → Hp → VK → Prop := fun xs H Q => ∃ x, xs = [.str x] ∧ x.length = 1 ∧ Q (.int (x.cps.getD 0 0 : Nat)) H
theorem call_ordU : CallR X (.builtin "ord") rOrdU := call_ord
def ordW : List W → Sto → QK → Prop := fun ws σ Q => ∃ x, ws = [.d (.str x)] ∧ x.length = 1 ∧ Q (.d (.int (x.cps.getD 0 0 : Nat))) σ
instance sim_ordU : SimC Z rOrdU ordW := ⟨fun {ρ σ H xs ws Qa Q} rl v q kq => by
  obtain ⟨x, rfl, h1, q⟩ := q
  cases v with
  | cons v1 v2 =>
    cases v2
    rw [v1.str]
    exact ⟨x, rfl, h1, kq.d .refl rl (Rp.int _) q⟩⟩
def rIntU : List V → Hp → VK → Prop := fun xs H Q => (∃ i, xs = [.int i] ∧ Q (.int i) H) ∨ ∃ k, xs = [.bl k] ∧ Q (.int (if k then 1 else 0)) H
theorem call_intU : CallR X (.type "int") rIntU := call_int1
def intW : List W → Sto → QK → Prop := fun ws σ Q => (∃ i, ws = [.d (.int i)] ∧ Q (.d (.int i)) σ) ∨ ∃ b, ws = [.d (.bool b)] ∧ Q (.d (.int (if b = true then 1 else 0))) σ
instance sim_intU : SimC Z rIntU intW := ⟨fun {ρ σ H xs ws Qa Q} rl v q kq => by
  rcases q with ⟨i, rfl, q⟩ | ⟨b, rfl, q⟩
  · cases v with
    | cons v1 v2 =>
      cases v2
      rw [v1.int]
      exact .inl ⟨i, rfl, kq.d .refl rl (Rp.int _) q⟩
  · cases v with
    | cons v1 v2 =>
      cases v2
      rw [v1.bool]
      exact .inr ⟨b, rfl, kq.d .refl rl (Rp.int _) q⟩⟩
/-! ### repr -/
def rReprU (K : PySem.W.Frag) : List V → Hp → VK → Prop := rRepr K
theorem call_reprU (hK : X.K = K) (hg : X.A.guards = some []) (hr : Room k X.A) : CallR X (.builtin "repr") (rReprU K) := by subst hK; exact call_repr hg hr.units
structure Shw (d : PyData) : Prop where
  s : d.showable = true
  l : d.canLay0 = true
  p : d.depth ≤ 32
  z : d.shown.length ≤ 16000000
def reprW : List W → Sto → QK → Prop := fun ws σ Q => ∃ w d, ws = [w] ∧ dat σ w = some d ∧ Shw d ∧ Q (.d (.str d.shown)) σ
instance sim_reprU : SimC Z (rReprU Z.K) reprW := ⟨fun {ρ σ H xs ws Qa Q} rl v q kq => by
  obtain ⟨w, d, rfl, h1, sh, q⟩ := q
  cases v with
  | cons v1 v2 =>
    cases v2
    exact ⟨_, d, rfl, (dat_tp rl v1 h1).dp sh.l, sh.s, sh.l, sh.p, sh.z, kq.d .refl rl (Rp.str _) q⟩⟩
/-! ### isinstance(x, T) -/
def tIsi (K : PySem.W.Frag) (n : String) (te : TE) : TE := tCB (rIsi K) (tCons te (tCons (tC (.ty n)) tNil))
def aIsi (n : String) (fa : AE) : AE := fun e σ Q X => fa e σ (fun w σ1 => ∃ d b, dat σ1 w = some d ∧ (∀ ds, d ≠ .dict ds) ∧ kitB (tyN d) n = some b ∧ Q (.d (.bool b)) σ1) X
theorem tyX_tp {ρ : List Addr} {H : Hp} {x : V} : ∀ {d : PyData}, Tp K ρ H x d → (∀ ds, d ≠ .dict ds) → TyX K H x (.type (tyN d))
  | .none, h, _ => by rw [h.none]; exact .base .non
  | .bool b, h, _ => by rw [h.bool]; exact .base (.bl b)
  | .int b, h, _ => by rw [h.int]; exact .base (.int b)
  | .str b, h, _ => by rw [h.str]; exact .base (.str b)
  | .list ds, ⟨a, xs, e, h1, _⟩, _ => by
    subst e
    rcases h1 with h1 | ⟨o, h1⟩
    · exact .base (.lst h1)
    · exact .base (.frz h1)
  | .tuple ds, h, _ => by
    obtain ⟨a, xs, rfl, h1, _⟩ := h.tup
    rcases h1.rd with z | ⟨o, z⟩
    · exact .base (.tup z)
    · exact .fTuple z
  | .dict ds, _, n => absurd rfl (n ds)
instance sim_isi {n : String} [ia : SimE Z E ta fa] : SimE Z E (tIsi Z.K n ta) (aIsi n fa) := ⟨fun r er h kq kx =>
  ia.sim r er h (fun _ _ _ _ _ g r' v h' => by
    obtain ⟨d, b, h1, h2, h3, q⟩ := h'
    exact ⟨_, .ty n, _, _, b, rfl, .ty n, tyX_tp (dat_tp r' v h1) h2, kit_ty h3, kq.d g r' (Rp.bl b) q⟩) kx⟩
/-! ### sorted(d), d a cell whose keys are names; max(ns, default=d) -/
def srtW : List W → Sto → QK → Prop := fun ws σ Q => ∃ i kvs ns, ws = [.ref i] ∧ σ[i]? = some (.dct true kvs) ∧ keys kvs = ns.map nmD ∧ Q (.d (.list ((srt ns).map nmD))) σ
theorem nmD_kT (n : Nm) : nmD n = kT (nmK n) := rfl
theorem prs_names {ρ : List Addr} {H : Hp} : ∀ {hk : List (List Key × V)} {kvs : List (PyData × W)} {ns : List Nm}, PRs K ρ H (hk.map fun p => (kT p.1, p.2)) kvs → keys kvs = ns.map nmD → hk.map (·.1) = ns.map nmK
  | [], _, [], .nil, _ => rfl
  | [], _, _ :: _, .nil, e => by cases e
  | p :: hk, q :: kvs, n :: ns, .cons h t, e => by
    have e1 := List.cons.inj (show q.1 :: keys kvs = nmD n :: ns.map nmD from e)
    have h1 : p.1 = nmK n := kT_inj (h.1.trans e1.1)
    rw [List.map_cons, List.map_cons, h1, prs_names t e1.2]
  | p :: hk, q :: kvs, [], .cons h t, e => by cases e
theorem nms_rp {ρ : List Addr} {H : Hp} : ∀ {ns : List Nm} {bs : List Addr}, Nms H ns bs → RpAll K ρ H (bs.map V.ref) (ns.map nmD)
  | _, _, .nil => .nil
  | _, _, .cons h t => .cons (.tup (.of h rfl) (.cons (.int _) (.cons (.str _) .nil))) (nms_rp t)
def rSortN : List V → Hp → VK → Prop := rSortT
theorem call_sortN (hc : X.calm = true) (hr : Room k X.A) : CallR X (.builtin "sorted") rSortN := call_sortT hc (by have := hr.un; omega)
instance sim_sortN : SimC Z rSortN srtW := ⟨fun {ρ σ H xs ws Qa Q} rl v q kq => by
  obtain ⟨i, kvs, ns, rfl, hc, hk, q⟩ := q
  cases v with
  | cons v1 v2 =>
    cases v2
    obtain ⟨a, ha, rfl⟩ := v1
    obtain ⟨hkv, e1, e2⟩ := rl.cell i a _ ha hc
    exact ⟨a, hkv, ns, rfl, e1, prs_names e2 hk, fun p bs n nm => kq.layL rl n (nms_rp nm) q⟩⟩
theorem call_maxA (hK : X.K = K) (hc : X.calm = true) (hr : Room k X.A) : CallRK X (.builtin "max") [Str.ofString "default"] (rMaxDef K) := by subst hK; exact call_maxDef hc hr.units
def aMaxD (fr fk : AA) : AE := fun e σ Q X => fr e σ (fun ws σ1 => fk e σ1 (fun zs σ2 => ∃ w ns d, ws = [w] ∧ zs = [.d (.int d)] ∧ dat σ2 w = some (.list (ns.map .int)) ∧ Q (.d (.int (maxZ d ns))) σ2) X) X
theorem rpAll_ints {ρ : List Addr} {H : Hp} : ∀ {ns : List Int} {xs : List V}, RpAll K ρ H xs (ns.map PyData.int) → xs = ns.map V.int
  | [], _, h => by cases h; rfl
  | n :: ns, _, h => by
    cases h with
    | cons h t =>
      cases h
      rw [rpAll_ints t]
      rfl
instance sim_maxD {tk : TA} {fk : AA} [ia : SimA Z E t fr] [ib : SimA Z E tk fk] : SimE Z E (tCKw (rMaxDef Z.K) t tk) (aMaxD fr fk) := ⟨fun r er h kq kx =>
  ia.sim r er h (fun _ _ _ _ _ g1 r1 v1 h1 => ib.sim r1 (g1.er r er) h1 (fun _ _ _ _ _ g2 r2 v2 h2 => by
    obtain ⟨w, ns, d, rfl, rfl, hd, q⟩ := h2
    obtain ⟨x, rfl, vx⟩ := wrs1 v1
    obtain ⟨y, rfl, vy⟩ := wrs1 v2
    obtain ⟨a, xs, rfl, hr, hp⟩ := dat_tp r2 (g2.wr r1 vx) hd
    have := rpAll_ints hp
    subst this
    exact ⟨a, ns, d, rfl, by rw [vy.int], .inl hr, (kq.go (g1.trans g2)).d .refl r2 (Rp.int _) q⟩) (kx.go g1)) kx⟩
/-! ### displays -/
def aLst (fr : AA) : AE := fun e σ Q X => fr e σ (fun ws σ1 => ∃ ds, pures ws = some ds ∧ ds.length ≤ sizeLine ∧ Q (.d (.list ds)) σ1) X
instance sim_lst [ir : SimA Z E t fr] : SimE Z E (tLst t) (aLst fr) := ⟨fun r er h k kx =>
  ir.sim r er h (fun _ _ _ _ _ g1 r1 v1 h1 => by
    obtain ⟨ds, hp, hl, q⟩ := h1
    have ra := pures_rp v1 hp
    exact ⟨by rw [rpAll_len ra]; exact hl, fun p n => (k.go g1).layL r1 n ra q⟩) kx⟩
def tLstC (t : TA) : TE := tLst t
def aLstC (fr : AA) : AE := fun e σ Q X => fr e σ (fun ws σ1 => ws.length ≤ sizeLine ∧ Q (.ref σ1.length) (σ1 ++ [.lst ws])) X
instance sim_lstC [ir : SimA Z E t fr] : SimE Z E (tLstC t) (aLstC fr) := ⟨fun r er h k kx =>
  ir.sim r er h (fun _ _ _ _ _ g1 r1 v1 h1 => ⟨by rw [Paired.len v1]; exact h1.1, fun p n => (k.go g1).layC r1 n v1 h1.2⟩) kx⟩
def aDNew (b : Bool) : AE := fun _ σ Q _ => Q (.ref σ.length) (σ ++ [.dct b []])
instance sim_dnK : SimE Z E tDNewK (aDNew false) := ⟨fun r er h k _ p n => k.layDK r n h⟩
instance sim_dnT : SimE Z E tDNewT (aDNew true) := ⟨fun r er h k _ p n => k.layDT r n h⟩
/-- {k: v, ..}: a cell -/
def aPairs : List (AE × AE) → Ev → Sto → (List (W × W) → Sto → Prop) → XQ → Prop
  | [], _, σ, Q, _ => Q [] σ
  | (fk, fv) :: r, e, σ, Q, X => fk e σ (fun x σ1 => fv e σ1 (fun y σ2 => aPairs r e σ2 (fun ps σ3 => Q ((x, y) :: ps) σ3) X) X) X
class SimPs (Z : Zx) (E : L2.St → XK) (ts : List (TE × TE)) (fs : outParam (List (AE × AE))) : Prop where
  sim : ∀ {ρ : List Addr} {σ : Sto} {H : Hp} {s : L2.St} {e : Ev} {Qa : List (W × W) → Sto → Prop} {Ea : XQ} {Q : List (V × V) → Hp → Prop}, Rel Z.K Z.T ρ σ H → ER Z.K ρ H s e → aPairs fs e σ Qa Ea →
    (∀ ρ' σ' H' ps qs, Go Z.T ρ H ρ' H' → Rel Z.K Z.T ρ' σ' H' → Paired (fun p q => WR Z.K ρ' H' p.1 q.1 ∧ WR Z.K ρ' H' p.2 q.2) ps qs → Qa qs σ' → Q ps H') → KX Z ρ H Ea (E s) → tPairs ts s H Q
instance sim_ps0 : SimPs Z E [] [] := ⟨fun r er h k _ => k _ _ _ _ _ .refl r .nil h⟩
instance sim_ps1 {ts : List (TE × TE)} {fs : List (AE × AE)} [ia : SimE Z E ta fa] [ib : SimE Z E tb fb] [ic : SimPs Z E ts fs] : SimPs Z E ((ta, tb) :: ts) ((fa, fb) :: fs) := ⟨fun r er h k kx =>
  ia.sim r er h (fun _ _ _ _ _ g1 r1 v1 h1 => ib.sim r1 (g1.er r er) h1 (fun _ _ _ _ _ g2 r2 v2 h2 => ic.sim r2 ((g1.trans g2).er r er) h2 (fun _ _ _ _ _ g3 r3 v3 h3 =>
    k _ _ _ _ _ ((g1.trans g2).trans g3) r3 (.cons ⟨(g2.trans g3).wr r1 v1, g3.wr r2 v2⟩ v3) h3) (kx.go (g1.trans g2))) (kx.go g1)) kx⟩
noncomputable def mergeD (acc : List (PyData × W)) : List (W × W) → Option (List (PyData × W))
  | [] => some acc
  | (.d k, v) :: r => if isK k = true then mergeD (dput acc k v) r else none
  | _ :: _ => none
noncomputable def aDisp (fs : List (AE × AE)) : AE := fun e σ Q X => aPairs fs e (σ ++ [.dct false []]) (fun ps σ2 => σ2[σ.length]? = some (.dct false []) ∧ ps.length ≤ 15 ∧ ∃ kvs, mergeD [] ps = some kvs ∧ Q (.ref σ.length) (σ2.set σ.length (.dct false kvs))) X
theorem merge_sim {ρ : List Addr} {H : Hp} : ∀ {ps : List (V × V)} {qs : List (W × W)} {acc kvs : List (PyData × W)} {hk : List (Key × V)}, Paired (fun p q => WR K ρ H p.1 q.1 ∧ WR K ρ H p.2 q.2) ps qs → PRs K ρ H (hk.map fun p => (kD p.1, p.2)) acc → mergeD acc qs = some kvs →
    ∃ l : List (Key × V), ps = l.map (fun kv => (kV kv.1, kv.2)) ∧ PRs K ρ H ((mergeK hk l).map fun p => (kD p.1, p.2)) kvs
  | _, _, acc, kvs, hk, .nil, h, e => by
    cases e
    exact ⟨[], rfl, h⟩
  | p :: ps, (.d kd, w) :: qs, acc, kvs, hk, .cons h t, h2, e => by
    obtain ⟨x, y⟩ := p
    unfold mergeD at e
    by_cases hkd : isK kd = true
    · rw [if_pos hkd] at e
      obtain ⟨kk, rfl⟩ := isK_of hkd
      obtain ⟨l, e1, e2⟩ := merge_sim (hk := putK hk kk y) t (prs_put (fun _ _ => kD_inj) kk h.2 h2) e
      refine ⟨(kk, y) :: l, ?_, e2⟩
      have : x = kV kk := rp_key h.1
      rw [this, e1]
      rfl
    · rw [if_neg hkd] at e
      cases e
  | _, (.ref _, _) :: _, _, _, _, .cons _ _, _, e => by cases e
  | _, (.scr _, _) :: _, _, _, _, .cons _ _, _, e => by cases e
instance sim_disp {ts : List (TE × TE)} {fs : List (AE × AE)} [ip : SimPs Z E ts fs] : SimE Z E (tDisp ts) (aDisp fs) := ⟨fun {ρ σ H s e Qa Ea Q} r er h k kx p n => by
  have gc : Go Z.T ρ H (ρ ++ [p]) (upd H p (.dK [])) := Go.cell n
  have rc : Rel Z.K Z.T (ρ ++ [p]) (σ ++ [.dct false []]) (upd H p (.dK [])) := r.cell' n ⟨[], upd_same, .nil⟩
  have hp : (ρ ++ [p])[σ.length]? = some p := by rw [r.len, List.getElem?_append_right (Nat.le_refl _), Nat.sub_self]; rfl
  refine ip.sim rc (gc.er r er) h (fun ρ' σ' H' ps qs g' r' pr q => ?_) (kx.go gc)
  obtain ⟨hc, hl, kvs, hm, q⟩ := q
  have hp' := g'.at_ hp
  obtain ⟨hk, e1, e2⟩ := r'.cell _ p _ hp' hc
  have e0 : hk = [] := by
    cases hk with
    | nil => rfl
    | cons a b => cases e2
  subst e0
  obtain ⟨l, rfl, e3⟩ := merge_sim (hk := []) pr .nil hm
  have gp : Go Z.T ρ' H' ρ' (upd H' p (.dK (mergeK [] l))) := Go.put (List.mem_of_getElem? hp') e1
  refine ⟨e1, l, rfl, ?_, k.r ((gc.trans g').trans gp) (r'.put (c := .dct false kvs) hp' ⟨_, upd_same, gp.prs r' e3⟩) hp' q⟩
  have := Paired.len pr
  rw [List.length_map] at this
  omega⟩
/-! ### d[k] = v -/
noncomputable def aDPut (fd fk fv : AE) : AS := fun k e σ => fv e σ (fun w σ1 => fd e σ1 (fun d σ2 => fk e σ2 (fun y σ3 => ∃ i t kvs kd, d = .ref i ∧ y = .d kd ∧ σ3[i]? = some (.dct t kvs) ∧ (if t = true then isKT kd = true else isK kd = true) ∧ kvs.length < sizeLine ∧
  k.nx e (σ3.set i (.dct t (dput kvs kd w)))) (k.ex e)) (k.ex e)) (k.ex e)
instance sim_dput [ia : SimE Z E ta fa] [ib : SimE Z E tb fb] [ic : SimE Z E tc fc] : SimS Z E (sDPut ta tb tc) (aDPut fa fb fc) := ⟨fun {ρ σ H s e k D} r er h kn kr kx =>
  ic.sim r er h (fun _ _ _ vv ww g1 r1 v1 h1 => ia.sim r1 (g1.er r er) h1 (fun _ _ _ _ _ g2 r2 v2 h2 => ib.sim r2 ((g1.trans g2).er r er) h2 (fun ρ3 σ3 H3 v w g3 r3 v3 h3 => by
    obtain ⟨i, t, kvs, kd, rfl, rfl, hc, hk, hl, q⟩ := h3
    obtain ⟨a, ha, rfl⟩ := g3.wr r2 v2
    have v1' := (g2.trans g3).wr r1 v1
    cases t with
    | true =>
      rw [if_pos rfl] at hk
      obtain ⟨ks, rfl⟩ := isKT_of hk
      obtain ⟨b, rfl, hb⟩ := rp_keyT v3
      obtain ⟨hkv, e1, e2⟩ := r3.cell i a _ ha hc
      refine ⟨a, _, rfl, DPut.t e1 hb (by rw [prs_len e2]; exact hl), ?_⟩
      have gp : Go Z.T ρ3 H3 ρ3 (upd H3 a (.dT (putK hkv ks vv))) := Go.put (List.mem_of_getElem? ha) e1
      exact kn _ _ _ _ _ (((g1.trans g2).trans g3).trans gp) (r3.put (c := .dct true (dput kvs (kT ks) ww)) ha ⟨_, upd_same, gp.prs r3 (prs_put (fun _ _ => kT_inj) ks v1' e2)⟩) ((((g1.trans g2).trans g3).trans gp).er r er) q
    | false =>
      rw [if_neg (by decide)] at hk
      obtain ⟨ks, rfl⟩ := isK_of hk
      have ev := rp_key v3
      subst ev
      obtain ⟨hkv, e1, e2⟩ := r3.cell i a _ ha hc
      refine ⟨a, _, rfl, DPut.k e1 (by rw [prs_len e2]; exact hl), ?_⟩
      have gp : Go Z.T ρ3 H3 ρ3 (upd H3 a (.dK (putK hkv ks vv))) := Go.put (List.mem_of_getElem? ha) e1
      exact kn _ _ _ _ _ (((g1.trans g2).trans g3).trans gp) (r3.put (c := .dct false (dput kvs (kD ks) ww)) ha ⟨_, upd_same, gp.prs r3 (prs_put (fun _ _ => kD_inj) ks v1' e2)⟩) ((((g1.trans g2).trans g3).trans gp).er r er) q) ((kx.go (g1.trans g2)).at_ r2 ((g1.trans g2).er r er))) ((kx.go g1).at_ r1 (g1.er r er))) (kx.at_ r er)⟩
end
end Aw

/-! AwD: methods; a def as an abstract function; the feed. -/
namespace Aw
open PySem PySem.Spec PyProof.Rows L2 Mw
section
variable {X : Cx} {K : PySem.W.Frag} {k : Nat} {Z : Zx} {E : L2.St → XK} {ta tb tc : TE} {fa fb fc : AE} {t : TA} {fr : AA}
def tyW (T : String) (σ : Sto) : W → Prop
  | .d (.str _) => T = "str"
  | .d (.list _) => T = "list"
  | .ref i => match σ[i]? with
    | some (.lst _) => T = "list"
    | some (.dct _ _) => T = "dict"
    | _ => False
  | _ => False
def aBM (T : String) (ra : W → List W → Sto → QK → Prop) (fa : AE) (fr : AA) : AE := fun e σ Q X => fa e σ (fun w σ1 => tyW T σ1 w ∧ fr e σ1 (fun ws σ2 => ra w ws σ2 Q) X) X
theorem tyW_sim {ρ : List Addr} {σ : Sto} {H : Hp} {x : V} {T : String} (rl : Rel Z.K Z.T ρ σ H) : ∀ {w : W}, WR Z.K ρ H x w → tyW T σ w → tyV Z.K T x H
  | .d (.str z), h, q => by rw [h.str]; exact q
  | .d (.list ds), h, q => by
    have h : Rp Z.K ρ H x (.list ds) := h
    cases h with
    | lst h1 h2 => exact .inl ⟨q, _, .inl h1.2⟩
  | .ref i, h, q => by
    obtain ⟨a, ha, rfl⟩ := h
    cases hc : σ[i]? with
    | none => simp [tyW, hc] at q
    | some c =>
      have cr := rl.cell i a c ha hc
      cases c with
      | lst ws =>
        obtain ⟨xs, e1, _⟩ := cr
        exact .inl ⟨by simpa [tyW, hc] using q, xs, .inl (.inl e1)⟩
      | dct b kvs =>
        have qT : T = "dict" := by simpa [tyW, hc] using q
        cases b with
        | false =>
          obtain ⟨hk, e1, _⟩ := cr
          exact .inr (.inr (.inl ⟨qT, .inl ⟨hk, e1⟩⟩))
        | true =>
          obtain ⟨hk, e1, _⟩ := cr
          exact .inr (.inr (.inl ⟨qT, .inr ⟨hk, e1⟩⟩))
      | lck b kvs => simp [tyW, hc] at q
  | .d .none, _, q => q.elim
  | .d (.bool _), _, q => q.elim
  | .d (.int _), _, q => q.elim
  | .d (.tuple _), _, q => q.elim
  | .d (.dict _), _, q => q.elim
  | .scr _, _, q => q.elim
instance sim_bm {T : String} {r : V → List V → Hp → VK → Prop} {ra : W → List W → Sto → QK → Prop} [im : SimM Z r ra] [ia : SimE Z E ta fa] [ir : SimA Z E t fr] : SimE Z E (tBM Z.K T r ta t) (aBM T ra fa fr) := ⟨fun r0 er h kq kx =>
  ia.sim r0 er h (fun _ _ _ _ _ g1 r1 v1 h1 => ⟨tyW_sim r1 v1 h1.1, ir.sim r1 (g1.er r0 er) h1.2 (fun _ _ _ _ _ g2 r2 v2 h2 => im.sim r2 (g2.wr r1 v1) v2 h2 (kq.go (g1.trans g2))) (kx.go g1)⟩) kx⟩
def appendW : W → List W → Sto → QK → Prop := fun a ws σ Q => ∃ i ys y, a = .ref i ∧ ws = [y] ∧ σ[i]? = some (.lst ys) ∧ ys.length < sizeLine ∧ Q (.d .none) (σ.set i (.lst (ys ++ [y])))
instance sim_append : SimM Z rAppend appendW := ⟨fun {ρ σ H x a xs ws Qa Q} rl va vs q kq => by
  obtain ⟨i, ys, y, rfl, rfl, hc, hl, q⟩ := q
  obtain ⟨ad, ha, rfl⟩ := va
  obtain ⟨v, rfl, vy⟩ := wrs1 vs
  obtain ⟨zs, e1, e2⟩ := rl.cell i ad _ ha hc
  have gp : Go Z.T ρ H ρ (upd H ad (.lst (zs ++ [v]))) := Go.put (List.mem_of_getElem? ha) e1
  exact ⟨ad, zs, v, rfl, rfl, e1, by rw [Paired.len e2]; exact hl, kq.d gp (rl.put (c := .lst (ys ++ [y])) ha ⟨_, upd_same, gp.wrs rl (paired_app e2 (.cons vy .nil))⟩) Rp.non q⟩⟩
def rJoinU (K : PySem.W.Frag) : V → List V → Hp → VK → Prop := fun x xs H Q => ∃ a p, ∃ ys : List Str, x = .str a ∧ xs = [.ref p] ∧ (SqL K H p (ys.map V.str) ∨ SqT K H p (ys.map V.str)) ∧
    (ys.map (·.length)).sum + ys.length * a.length ≤ 16777216 ∧ Q (.str (PySem.Txt.join a ys)) H
theorem mt_joinU (hK : X.K = K) : MtR X "str.join" (rJoinU K) := by subst hK; exact mt_join
def joinW : W → List W → Sto → QK → Prop := fun a ws σ Q => ∃ (z : Str) (w : W) (ys : List Str), a = .d (.str z) ∧ ws = [w] ∧ seqOf σ w = some (ys.map .str) ∧ (ys.map (·.length)).sum + ys.length * z.length ≤ 16777216 ∧ Q (.d (.str (PySem.Txt.join z ys))) σ
theorem rpAll_strs {ρ : List Addr} {H : Hp} : ∀ {ns : List Str} {xs : List V}, RpAll K ρ H xs (ns.map PyData.str) → xs = ns.map V.str
  | [], _, h => by cases h; rfl
  | n :: ns, _, h => by
    cases h with
    | cons h t =>
      cases h
      rw [rpAll_strs t]
      rfl
instance sim_join : SimM Z (rJoinU Z.K) joinW := ⟨fun {ρ σ H x a xs ws Qa Q} rl va vs q kq => by
  obtain ⟨z, w, ys, rfl, rfl, h1, h2, q⟩ := q
  obtain ⟨v, rfl, vw⟩ := wrs1 vs
  unfold seqOf at h1
  cases h4 : dat σ w with
  | none => rw [h4] at h1; cases h1
  | some dd =>
    rw [h4] at h1
    have tb := dat_tp rl vw h4
    cases dd <;> first | (cases h1; done) | skip
    · rename_i l
      have e : l = ys.map PyData.str := Option.some.inj h1
      subst e
      obtain ⟨ad, us, rfl, hr, hp⟩ := tb
      have := rpAll_strs hp
      subst this
      exact ⟨z, ad, ys, va.str, rfl, .inl (.inl hr), h2, kq.d .refl rl (Rp.str _) q⟩
    · rename_i l
      have e : l = ys.map PyData.str := Option.some.inj h1
      subst e
      obtain ⟨ad, us, rfl, hr, hp⟩ := tb.tup
      have := rpAll_strs hp
      subst this
      exact ⟨z, ad, ys, va.str, rfl, .inr (.inl hr.rd), h2, kq.d .refl rl (Rp.str _) q⟩⟩
/-! ### defs -/
variable {P : Program} {w : World} {mg : Str → Option Value} {base : Heap} {x : Str} {st : Stmt} {f c : Addr} {fd : FuncData} {N ps : List Str} {body : AS}
theorem spA_len {m : Nat} {mf : AF} {vs : List V} {H : Hp} {Q : VK} {F : XK} (h : spA Z m mf vs H Q F) : vs.length = m := h.1
theorem body_sim {ts : TS} {F : XK} {vs : List V} {H : Hp} {Q : VK} {n : Nat} [is : SimS Z (fun _ => F) ts body] (h : spA Z n (aFn N.length body) vs H Q F) : ts { nx := fun _ H' => Q .non H', rt := Q } (L2.start N vs) H := by
  obtain ⟨hl, ρ, σ, ws, Qa, Ea, r, v, q, kq, kx⟩ := h
  have e : ER Z.K ρ H (L2.start N vs) (aStart N.length ws) := by
    unfold L2.start aStart
    rw [Paired.len v]
    exact paired_app (er_some v) (er_none _)
  exact is.sim r e q (fun _ _ _ _ _ g r' _ q' => kq.d g r' Rp.non q') kq (fun _ _ _ _ _ _ _ _ g r' _ x q' => kx _ _ _ _ _ _ g r' x q')
/-- a def of the text as an abstract function -/
theorem fnA (D : Def Z.K x st f c fd) (S : FnScope N ps (defScope st))
    (h : ∀ (A : Around) (outer : List Env) (s : Shared) (H : Hp) (F : XK), Room k (A.deeper (envOfC x (defScope st) s.heap.objs.size f (.ref c))) → ∃ ts, PSs (Bx P w Z.K mg base N x st f c A outer s H F) (defBody st) ts ∧ SimS Z (fun _ => F) ts body) :
    FnOk P w Z.K mg base CX0 (k + 1) f fd ps (spA Z ps.length (aFn N.length body)) :=
  D.ok S (fun vs H Q E h => h.1) fun A outer s H vs Q E hr q => by
    obtain ⟨ts, h1, h2⟩ := h A outer s H E hr
    exact ⟨ts, h1, body_sim q⟩
theorem fnG (D : Def Z.K x st f c fd) (S : FnScope N ps (defScope st))
    (h : ∀ (A : Around) (outer : List Env) (s : Shared) (H : Hp) (F : XK), Room k (A.deeper (envOfC x (defScope st) s.heap.objs.size f (.ref c))) → A.guards = some [] → ∃ ts, PSs (Bx P w Z.K mg base N x st f c A outer s H F) (defBody st) ts ∧ SimS Z (fun _ => F) ts body) :
    FnG P w Z.K mg base (k + 1) f fd ps (spA Z ps.length (aFn N.length body)) :=
  D.okG S (fun vs H Q E h => h.1) fun A outer s H vs Q E hr hg q => by
    obtain ⟨ts, h1, h2⟩ := h A outer s H E hr hg
    exact ⟨ts, h1, body_sim q⟩
end
end Aw

/-! AwE: the rules as the generator writes them. -/
namespace Aw
open PySem PySem.Spec PyProof.Rows L2 Mw
/-- a def that may be called -/
structure CalF (P : Program) (w : World) (Z : Zx) (mg : Str → Option Value) (base : Heap) (x : Str) (k : Nat) (ps : List Str) (mf : AF) : Prop where
  ex : ∃ (f : Addr) (fd : FuncData), PySem.W.keepIn Z.K (.ref f) = true ∧ Binds Z.K fd ps [] ∧ mg x = some (.ref f) ∧ FnOk P w Z.K mg base CX0 k f fd ps (spA Z ps.length mf)
structure CalG (P : Program) (w : World) (Z : Zx) (mg : Str → Option Value) (base : Heap) (x : Str) (k : Nat) (ps : List Str) (mf : AF) : Prop where
  ex : ∃ (f : Addr) (fd : FuncData), PySem.W.keepIn Z.K (.ref f) = true ∧ Binds Z.K fd ps [] ∧ mg x = some (.ref f) ∧ FnG P w Z.K mg base k f fd ps (spA Z ps.length mf)
section
variable {P : Program} {w : World} {Z : Zx} {mg : Str → Option Value} {base : Heap} {x : Str} {k j : Nat} {ps : List Str} {mf mf' : AF}
theorem CalF.shed (c : CalF P w Z mg base x k ps mf) (h : ∀ ws σ Q X, mf' ws σ Q X → mf ws σ (fun w σ' => Told σ.length σ σ' w Q) X) : CalF P w Z mg base x k ps mf' := by
  obtain ⟨f, fd, h1, h2, h3, h4⟩ := c.ex
  exact ⟨f, fd, h1, h2, h3, FnOk.shed h4 h⟩
theorem CalF.as (c : CalF P w Z mg base x k ps mf) (h : ∀ ws σ Q X, mf' ws σ Q X → mf ws σ Q X) : CalF P w Z mg base x k ps mf' := by
  obtain ⟨f, fd, h1, h2, h3, h4⟩ := c.ex
  exact ⟨f, fd, h1, h2, h3, FnOk.as h4 h⟩
theorem CalG.shed (c : CalG P w Z mg base x k ps mf) (h : ∀ ws σ Q X, mf' ws σ Q X → mf ws σ (fun w σ' => Told σ.length σ σ' w Q) X) : CalG P w Z mg base x k ps mf' := by
  obtain ⟨f, fd, h1, h2, h3, h4⟩ := c.ex
  exact ⟨f, fd, h1, h2, h3, ⟨fun vs H Q E q => h4.len vs H Q E (spA_shed h _ _ _ _ q), fun A outer s H args us vs Q E hr hg he hb hv hs => h4.run A outer s H args us vs Q E hr hg he hb hv (spA_shed h _ _ _ _ hs)⟩⟩
theorem CalF.mono (c : CalF P w Z mg base x k ps mf) (h : k ≤ j) : CalF P w Z mg base x j ps mf := by
  obtain ⟨f, fd, h1, h2, h3, h4⟩ := c.ex
  exact ⟨f, fd, h1, h2, h3, h4.mono h⟩
end
section
variable {X : Cx} {P : Program} {w : World} {Z : Zx} {K : PySem.W.Frag} {mg : Str → Option Value} {base : Heap} {x : Str} {k n : Nat} {ps : List Str} {mf : AF} {p pos apos : Pos} {a b e : Expr} {es : List Expr} {ta tb te td : TE} {t : TA} {F : XK}
theorem pe_callA (c : CalF P w Z mg base x k ps mf) (e1 : X.prog = P) (e2 : X.w = w) (e3 : X.K = Z.K) (e4 : X.mg = mg) (e5 : X.base = base) (hn : ps.length = n) (hr : Room k X.A) (hg : Gl X x) (ha : PA X (e :: es) t)
    (hdb : (x == ("__debug__" : Str)) = false := by decide) (he : starEach (e :: es) X.env = (false, eval e X.env) :: starEach es X.env := by rfl) (hpl : (backTo pos (starEach es X.env)).any (·.1) = false := by rfl) :
    PE X (.Call (.Name x p) (e :: es) [] pos) (tCall (spA Z n mf) [] F t) := by
  obtain ⟨f, fd, h1, h2, h3, h4⟩ := c.ex
  subst e1 e2 e4 e5 hn
  rw [← e3] at h1 h2 h4
  exact pe_call h4 hr hg h3 h1 h2 .nil pass0 ha hdb he hpl
theorem pe_callGA (c : CalG P w Z mg base x k ps mf) (e1 : X.prog = P) (e2 : X.w = w) (e3 : X.K = Z.K) (e4 : X.mg = mg) (e5 : X.base = base) (hn : ps.length = n) (hr : Room k X.A) (gu : X.A.guards = some []) (hg : Gl X x) (ha : PA X (e :: es) t)
    (hdb : (x == ("__debug__" : Str)) = false := by decide) (he : starEach (e :: es) X.env = (false, eval e X.env) :: starEach es X.env := by rfl) (hpl : (backTo pos (starEach es X.env)).any (·.1) = false := by rfl) :
    PE X (.Call (.Name x p) (e :: es) [] pos) (tCall (spA Z n mf) [] F t) := by
  obtain ⟨f, fd, h1, h2, h3, h4⟩ := c.ex
  subst e1 e2 e4 e5 hn
  rw [← e3] at h1 h2 h4
  exact pe_callG h4 hr gu hg h3 h1 h2 .nil pass0 ha hdb he hpl
theorem pe_ixA (hK : X.K = K) (hr : Room k X.A) (ha : PE X a ta) (hb : PE X b tb) (hs : PlainIx b) : PE X (.Subscript a b pos) (tOp (rIxU K) ta tb) := pe_ix (ix_U hK hr) ha hb hs
theorem pe_lstC (h : PA X es t) : PE X (.List es pos) (tLstC t) := pe_lst h
theorem pe_dputA (hr : Room k X.A) : X.A.units + 1 < cLine := Room.u1 hr
theorem pe_lcA {elt tg iter : Expr} {ifs : List Expr} {scope : Scope} {own : List (Str × Nat)} {pos : Pos} {wi : TI} {g : TG} {tt : TT} {te : TE} {vs : List Nat} (hv : own.map (·.2) = vs) (hc : X.calm = true) (hN : X.N.Nodup) (hi : PI X tg iter wi) (ok : BlkOk X.N X.env.scope scope own)
    (hg : ∀ (s : Shared) (H : Hp) (C : Addr) (cl : List (Str × Addr)) (fp : List Addr), PG (X.blk s H scope (compEnvC scope cl C X.env) fp) tg g) (ht : ∀ (s : Shared) (H : Hp) (C : Addr) (cl : List (Str × Addr)) (fp : List Addr), PTs (X.blk s H scope (compEnvC scope cl C X.env) fp) ifs tt)
    (he : ∀ (s : Shared) (H : Hp) (C : Addr) (cl : List (Str × Addr)) (fp : List Addr), PE (X.blk s H scope (compEnvC scope cl C X.env) fp) elt te) (hs : ∀ x, foldedSetIterable iter X.env x = pure x := by intro _; rfl) :
    PE X (.ListComp elt [⟨tg, iter, ifs, 0⟩] scope pos) (tLc wi g tt te vs) := hv ▸ pe_lc hc hN hi ok hg ht he hs
theorem pe_lcCA {elt tg iter : Expr} {ifs : List Expr} {scope : Scope} {own : List (Str × Nat)} {pos : Pos} {wi : TI} {g : TG} {tt : TT} {te : TE} {vs : List Nat} (hv : own.map (·.2) = vs) (hc : X.calm = true) (hN : X.N.Nodup) (hi : PI X tg iter wi) (ok : BlkOk X.N X.env.scope scope own)
    (hg : ∀ (s : Shared) (H : Hp) (C : Addr) (cl : List (Str × Addr)) (fp : List Addr), PG (X.blk s H scope (compEnvC scope cl C X.env) fp) tg g) (ht : ∀ (s : Shared) (H : Hp) (C : Addr) (cl : List (Str × Addr)) (fp : List Addr), PTs (X.blk s H scope (compEnvC scope cl C X.env) fp) ifs tt)
    (he : ∀ (s : Shared) (H : Hp) (C : Addr) (cl : List (Str × Addr)) (fp : List Addr), PE (X.blk s H scope (compEnvC scope cl C X.env) fp) elt te) (hs : ∀ x, foldedSetIterable iter X.env x = pure x := by intro _; rfl) :
    PE X (.ListComp elt [⟨tg, iter, ifs, 0⟩] scope pos) (tLcC wi g tt te vs) := hv ▸ pe_lc hc hN hi ok hg ht he hs
theorem ps_setLcA {elt tg iter : Expr} {ifs : List Expr} {scope : Scope} {own : List (Str × Nat)} {pos : Pos} {wi : TI} {g : TG} {tt : TT} {te : TE} {vs : List Nat} (hv : own.map (·.2) = vs) {i : Nat} {y : Str} {py spos : Pos} (hc : X.calm = true) (hN : X.N.Nodup) (hy : X.N[i]? = some y) (hyl : X.env.scope.names.lookup y = some .local)
    (hsw : swapsWith (.ListComp elt [⟨tg, iter, ifs, 0⟩] scope pos) (some (.Name y py)) spos.line X.env = pure true) (hi : PI X tg iter wi) (ok : BlkOk X.N X.env.scope scope own)
    (hg : ∀ (s : Shared) (H : Hp) (C : Addr) (cl : List (Str × Addr)) (fp : List Addr), PG (X.blk s H scope (compEnvC scope cl C X.env) fp) tg g) (ht : ∀ (s : Shared) (H : Hp) (C : Addr) (cl : List (Str × Addr)) (fp : List Addr), PTs (X.blk s H scope (compEnvC scope cl C X.env) fp) ifs tt)
    (he : ∀ (s : Shared) (H : Hp) (C : Addr) (cl : List (Str × Addr)) (fp : List Addr), PE (X.blk s H scope (compEnvC scope cl C X.env) fp) elt te) (hs : ∀ x, foldedSetIterable iter X.env x = pure x := by intro _; rfl) :
    PS X (.Assign [.Name y py] (.ListComp elt [⟨tg, iter, ifs, 0⟩] scope pos) spos) (tAsg (tLc wi g tt te vs) (gName i)) := hv ▸ ps_setLc hc hN hy hyl hsw hi ok hg ht he hs
theorem ps_setLcCA {elt tg iter : Expr} {ifs : List Expr} {scope : Scope} {own : List (Str × Nat)} {pos : Pos} {wi : TI} {g : TG} {tt : TT} {te : TE} {vs : List Nat} (hv : own.map (·.2) = vs) {i : Nat} {y : Str} {py spos : Pos} (hc : X.calm = true) (hN : X.N.Nodup) (hy : X.N[i]? = some y) (hyl : X.env.scope.names.lookup y = some .local)
    (hsw : swapsWith (.ListComp elt [⟨tg, iter, ifs, 0⟩] scope pos) (some (.Name y py)) spos.line X.env = pure true) (hi : PI X tg iter wi) (ok : BlkOk X.N X.env.scope scope own)
    (hg : ∀ (s : Shared) (H : Hp) (C : Addr) (cl : List (Str × Addr)) (fp : List Addr), PG (X.blk s H scope (compEnvC scope cl C X.env) fp) tg g) (ht : ∀ (s : Shared) (H : Hp) (C : Addr) (cl : List (Str × Addr)) (fp : List Addr), PTs (X.blk s H scope (compEnvC scope cl C X.env) fp) ifs tt)
    (he : ∀ (s : Shared) (H : Hp) (C : Addr) (cl : List (Str × Addr)) (fp : List Addr), PE (X.blk s H scope (compEnvC scope cl C X.env) fp) elt te) (hs : ∀ x, foldedSetIterable iter X.env x = pure x := by intro _; rfl) :
    PS X (.Assign [.Name y py] (.ListComp elt [⟨tg, iter, ifs, 0⟩] scope pos) spos) (tAsg (tLcC wi g tt te vs) (gName i)) := hv ▸ ps_setLc hc hN hy hyl hsw hi ok hg ht he hs
theorem pe_dcTA {kx vx tg iter : Expr} {ifs : List Expr} {scope : Scope} {own : List (Str × Nat)} {pos : Pos} {wi : TI} {g : TG} {tt : TT} {tk tv : TE} {vs : List Nat} (hv : own.map (·.2) = vs) (hu : X.A.units + 1 < cLine) (hc : X.calm = true) (hN : X.N.Nodup) (hi : PI X tg iter wi) (ok : BlkOk X.N X.env.scope scope own)
    (hg : ∀ (s : Shared) (H : Hp) (C : Addr) (cl : List (Str × Addr)) (fp : List Addr), PG (X.blk s H scope (compEnvC scope cl C X.env) fp) tg g) (ht : ∀ (s : Shared) (H : Hp) (C : Addr) (cl : List (Str × Addr)) (fp : List Addr), PTs (X.blk s H scope (compEnvC scope cl C X.env) fp) ifs tt)
    (hk : ∀ (s : Shared) (H : Hp) (C : Addr) (cl : List (Str × Addr)) (fp : List Addr), PE (X.blk s H scope (compEnvC scope cl C X.env) fp) kx tk) (hvv : ∀ (s : Shared) (H : Hp) (C : Addr) (cl : List (Str × Addr)) (fp : List Addr), PE (X.blk s H scope (compEnvC scope cl C X.env) fp) vx tv) (hs : ∀ x, foldedSetIterable iter X.env x = pure x := by intro _; rfl) :
    PE X (.DictComp kx vx [⟨tg, iter, ifs, 0⟩] scope pos) (tDcT wi g tt tk tv vs) := hv ▸ pe_dcT hu hc hN hi ok hg ht hk hvv hs
theorem pe_tupGA {c P : Addr} {elt tg iter : Expr} {ifs : List Expr} {scope : Scope} {own : List (Str × Nat)} {p pos gpos : Pos} {wi : TI} {g : TG} {tt : TT} {te : TE} {k : Nat} {vs : List Nat} (hv : own.map (·.2) = vs)
    (hr : Room k X.A) (hg : Gl X "tuple") (hm : X.mg "tuple" = none) (TB : GxR.TabB X.base X.mg c P) (hcode : X.env.code = .ref c) (hN : X.N.Nodup) (hi : PI X tg iter wi) (G : GParts X elt tg iter ifs scope own g tt te)
    (he : starEach [gG elt tg iter ifs scope gpos] X.env = (false, eval (gG elt tg iter ifs scope gpos) X.env) :: starEach [] X.env := by rfl) :
    PE X (.Call (.Name "tuple" p) [gG elt tg iter ifs scope gpos] [] pos) (tTupG P wi g tt te vs) := hv ▸ pe_tupG hr hg hm TB hcode hN hi G he
theorem pe_allGA {c P : Addr} {elt tg iter : Expr} {ifs : List Expr} {scope : Scope} {own : List (Str × Nat)} {p pos gpos : Pos} {wi : TI} {g : TG} {tt : TT} {te : TE} {k : Nat} {vs : List Nat} (hv : own.map (·.2) = vs)
    (hr : Room k X.A) (hg : Gl X "all") (hm : X.mg "all" = none) (TB : GxR.TabB X.base X.mg c P) (hcode : X.env.code = .ref c) (hN : X.N.Nodup) (hi : PI X tg iter wi) (G : GParts X elt tg iter ifs scope own g tt te)
    (he : starEach [gG elt tg iter ifs scope gpos] X.env = (false, eval (gG elt tg iter ifs scope gpos) X.env) :: starEach [] X.env := by rfl) :
    PE X (.Call (.Name "all" p) [gG elt tg iter ifs scope gpos] [] pos) (tAllG P wi g tt te vs) := hv ▸ pe_allG hr hg hm TB hcode hN hi G he
theorem pe_anyGA {c P : Addr} {elt tg iter : Expr} {ifs : List Expr} {scope : Scope} {own : List (Str × Nat)} {p pos gpos : Pos} {wi : TI} {g : TG} {tt : TT} {te : TE} {k : Nat} {vs : List Nat} (hv : own.map (·.2) = vs)
    (hr : Room k X.A) (hg : Gl X "any") (hm : X.mg "any" = none) (TB : GxR.TabB X.base X.mg c P) (hcode : X.env.code = .ref c) (hN : X.N.Nodup) (hi : PI X tg iter wi) (G : GParts X elt tg iter ifs scope own g tt te)
    (he : starEach [gG elt tg iter ifs scope gpos] X.env = (false, eval (gG elt tg iter ifs scope gpos) X.env) :: starEach [] X.env := by rfl) :
    PE X (.Call (.Name "any" p) [gG elt tg iter ifs scope gpos] [] pos) (tAnyG P wi g tt te vs) := hv ▸ pe_anyG hr hg hm TB hcode hN hi G he
theorem pe_bmA {o e : Expr} {es : List Expr} {to : TE} {t : TA} {name : Str} {apos cpos : Pos} {T id : String} {r : V → List V → Hp → VK → Prop} (hK : X.K = K) (pa : PlainAttrs T) (slot : Slot T name id) (hty : typeOf (.builtin id) = pure (.type "method_descriptor")) (hm : MtR X id r) (ho : PE X o to) (ha : PA X (e :: es) t)
    (hbase : attributeBase o name X.env (eval o X.env) = eval o X.env := by rfl)
    (hfew : ((backTo cpos (starEach (e :: es) X.env)).all (fun x => !x.1) && (backToKw cpos (keywordEach [] X.env)).all (fun x => x.1.isSome)
      && decide ((e :: es).length + ([] : List Keyword).length + (if ([] : List Keyword).isEmpty then 0 else 1) < 30)) = true := by rfl)
    (hline : (apos.endLine == cpos.line) = true := by rfl) (hs : starEach (e :: es) X.env = (false, eval e X.env) :: starEach es X.env := by rfl) (hplain : (backTo cpos (starEach es X.env)).any (·.1) = false := by rfl) :
    PE X (.Call (.Attribute o name apos) (e :: es) [] cpos) (tBM K T r to t) := by
  subst hK
  exact pe_bm pa slot hty hm ho ha hbase hfew hline hs hplain
theorem pg_tupA {es : List Expr} {k : Nat} {t : TGs} {n : Nat} (hK : X.K = K) (hc : X.calm = true) (h : PGs X es t) (hn : (assignEach es X.env).length = n := by rfl) (hst : (assignEach es X.env).findIdx? (·.1) = none := by rfl) : PG X (.Tuple es k pos) (gTup K n t) := by
  subst hK
  exact pg_tup hc h hn hst
theorem pe_isiA {n : String} {p1 p2 : Pos} (hK : X.K = K) (hg : Gl X "isinstance") (hm : X.mg "isinstance" = none) (he : PE X e te) (hg2 : Gl X (Str.ofString n)) (hm2 : X.mg (Str.ofString n) = none) (hv : bootBuiltins (Str.ofString n) = some (.type n))
    (hn : (Str.ofString n) ≠ "__name__") (hd : ((Str.ofString n) == ("__debug__" : Str)) = false)
    (h1 : starEach [e, .Name (Str.ofString n) p2] X.env = (false, eval e X.env) :: starEach [.Name (Str.ofString n) p2] X.env) (h2 : starEach [.Name (Str.ofString n) p2] X.env = (false, eval (.Name (Str.ofString n) p2) X.env) :: starEach [] X.env)
    (h3 : (backTo pos (starEach [.Name (Str.ofString n) p2] X.env)).any (·.1) = false) : PE X (.Call (.Name "isinstance" p) [e, .Name (Str.ofString n) p2] [] pos) (tIsi K n te) := by
  subst hK
  exact pe_callB call_isi hg hm boot_isinstance (pa_cons he (pa_cons (pe_bltn (v := .ty n) hg2 hm2 hv rfl hn hd) pa_nil h2) h1) (by decide) (by decide) h1 h3
end
end Aw

/-! AwF: more built-ins. -/
namespace Aw
open PySem PySem.Spec PyProof.Rows L2 Mw
section
variable {X : Cx} {K : PySem.W.Frag} {k : Nat} {Z : Zx} {E : L2.St → XK} {ta tb tc : TE} {fa fb fc : AE} {t : TA} {fr : AA}
/-! ### l[::s], s one or minus one -/
def aStp (fa fs : AE) : AE := fun e σ Q X => fa e σ (fun w σ1 => fs e σ1 (fun y σ2 => ∃ ds st, dat σ2 w = some (.list ds) ∧ y = .d (.int st) ∧ (st = 1 ∨ st = -1) ∧ Q (.d (.list (if st = 1 then ds else ds.reverse))) σ2) X) X
theorem rpAll_rev {ρ : List Addr} {H : Hp} : ∀ {xs : List V} {ds : List PyData}, RpAll K ρ H xs ds → RpAll K ρ H xs.reverse ds.reverse
  | _, _, .nil => .nil
  | _, _, .cons h t => by
    rw [List.reverse_cons, List.reverse_cons]
    exact rpAll_app (rpAll_rev t) (.cons h .nil)
theorem pe_stpA {e st : Expr} {te ts : TE} {p3 pos : Pos} (hK : X.K = K) (he : PE X e te) (hs : PE X st ts) : PE X (.Subscript e (.Slice none none (some st) p3) pos) (tStp K te ts) := by
  subst hK
  exact pe_stp he hs
instance sim_stp [ia : SimE Z E ta fa] [ib : SimE Z E tb fb] : SimE Z E (tStp Z.K ta tb) (aStp fa fb) := ⟨fun r er h kq kx =>
  ia.sim r er h (fun _ _ _ _ _ g1 r1 v1 h1 => ib.sim r1 (g1.er r er) h1 (fun _ _ _ _ _ g2 r2 v2 h2 => by
    obtain ⟨ds, st, hd, rfl, hs, q⟩ := h2
    obtain ⟨a, xs, rfl, hr, hp⟩ := dat_tp r2 (g2.wr r1 v1) hd
    refine ⟨st, v2.int, a, xs, st, rfl, rfl, hs, .inl hr, fun p n => ?_⟩
    by_cases e : st = 1
    · rw [if_pos e] at q ⊢
      exact (kq.go (g1.trans g2)).layL r2 n hp q
    · rw [if_neg e] at q ⊢
      exact (kq.go (g1.trans g2)).layL r2 n (rpAll_rev hp) q) (kx.go g1)) kx⟩
/-! ### list(d), the keys of d tuples -/
def rListK : List V → Hp → VK → Prop := fun xs H Q => ∃ d kvs, xs = [V.ref d] ∧ Rd H d (.dT kvs) ∧ ∀ p bs, H p = none → IsKeys H kvs bs → Q (.ref p) (upd H p (.lst (bs.map V.ref)))
theorem call_listK (hc : X.calm = true) : CallR X (.type "list") rListK := call_list_dT hc
def listKW : List W → Sto → QK → Prop := fun ws σ Q => ∃ i kvs, ws = [.ref i] ∧ σ[i]? = some (.dct true kvs) ∧ Q (.d (.list (keys kvs))) σ
theorem keys_rp {ρ : List Addr} {H : Hp} : ∀ {hk : List (List Key × V)} {kvs : List (PyData × W)} {bs : List Addr}, PRs K ρ H (hk.map fun p => (kT p.1, p.2)) kvs → IsKeys H hk bs → RpAll K ρ H (bs.map V.ref) (keys kvs)
  | [], _, _, h, .nil => by cases h; exact .nil
  | p :: hk, _, _, h, .cons hb t => by
    cases h with
    | @cons a b as cs h ht =>
      have e : b.1 = kT p.1 := h.1.symm
      show RpAll K ρ H (_ :: _) (b.1 :: keys cs)
      rw [e]
      refine .cons (.tup (.of hb (keys_norow _)) ?_) (keys_rp ht t)
      have : ∀ ks : List Key, RpAll K ρ H (ks.map kV) (ks.map kD) := fun ks => by
        induction ks with
        | nil => exact .nil
        | cons k ks ih =>
          cases k with
          | inl i => exact .cons (.int i) ih
          | inr i => exact .cons (.str i) ih
      exact this p.1
instance sim_listK : SimC Z rListK listKW := ⟨fun {ρ σ H xs ws Qa Q} rl v q kq => by
  obtain ⟨i, kvs, rfl, hc, q⟩ := q
  obtain ⟨x, rfl, v1⟩ := wrs1 v
  obtain ⟨a, ha, rfl⟩ := v1
  obtain ⟨hk, e1, e2⟩ := rl.cell i a _ ha hc
  exact ⟨a, hk, rfl, .inl e1, fun p bs n ik => kq.layL rl n (keys_rp e2 ik) q⟩⟩
end
end Aw

set_option maxHeartbeats 8000000
set_option synthInstance.maxHeartbeats 2000000
set_option synthInstance.maxSize 100000
/-! LwP: the world of the laws as abstract programs (generated). -/
namespace Lw
open PySem PySem.Spec PyProof.Rows L2 Mw Aw
noncomputable abbrev pFeed : AS := (aRet (aDisp [((aD (.str "cells")), (aCB listW (aCons (aSl (aVar 0) aNoP (aPart (aD (.int 63)))) aNil))), ((aD (.str "at")), (aD (.int 0))), ((aD (.str "left")), (aD (.int 0))), ((aD (.str "count")), (aD (.int 0)))]))
noncomputable abbrev pDraw : AS := (aSeq (aDPut (aVar 0) (aD (.str "count")) (aOp (ra2 addD) (aOp ixW (aVar 0) (aD (.str "count"))) (aD (.int 1))))
  (aSeq (aIfS (aTest (aOp (ra2 (ordF fGt)) (aOp ixW (aVar 0) (aD (.str "left"))) (aD (.int 0))))
    (aSeq (aAsg (aOp (ra2 modD) (aOp ixW (aVar 0) (aD (.str "left"))) (aVar 1)) (agN 2))
  (aSeq (aDPut (aVar 0) (aD (.str "left")) (aOp (ra2 fdivD) (aOp ixW (aVar 0) (aD (.str "left"))) (aVar 1)))
  (aRet (aVar 2))))
    aNext)
  (aSeq (aAsg (aOp ixW (aVar 0) (aD (.str "at"))) (agN 3))
  (aSeq (aDPut (aVar 0) (aD (.str "at")) (aOp (ra2 addD) (aVar 3) (aD (.int 1))))
  (aSeq (aAsg (aIf (aTest (aOp (ra2 (eqF true)) (aOp ixW (aVar 0) (aD (.str "cells"))) (aLst aNil))) (aOp ixW (aOp ixW (aVar 0) (aD (.str "cells"))) (aOp (ra2 modD) (aVar 3) (aCB lenW (aCons (aOp ixW (aVar 0) (aD (.str "cells"))) aNil)))) (aD (.int 3))) (agN 4))
  (aSeq (aIfS (aAnd (aTest (aOp (ra2 (ordF fGe)) (aVar 4) (aOp (ra2 powD) (aD (.int 10)) (aD (.int 18))))) (aTest (aOp (ra2 (ordF fLt)) (aVar 3) (aCB lenW (aCons (aOp ixW (aVar 0) (aD (.str "cells"))) aNil)))))
    (aSeq (aDPut (aVar 0) (aD (.str "left")) (aOp (ra2 fdivD) (aVar 4) (aVar 1)))
  (aRet (aOp (ra2 modD) (aVar 4) (aVar 1))))
    aNext)
  (aSeq (aAsg (aOp (ra2 modD) (aOp (ra2 addD) (aOp (ra2 addD) (aOp (ra2 modD) (aVar 4) (aD (.int 1000000007))) (aOp (ra2 mulD) (aD (.int 40503)) (aOp ixW (aVar 0) (aD (.str "count"))))) (aD (.int 17))) (aD (.int 2147483629))) (agN 5))
  (aSeq (aAsg (aOp (ra2 modD) (aOp (ra2 addD) (aOp (ra2 addD) (aOp (ra2 mulD) (aVar 5) (aVar 5)) (aOp (ra2 mulD) (aD (.int 15485863)) (aOp ixW (aVar 0) (aD (.str "count"))))) (aD (.int 1))) (aD (.int 2147483587))) (agN 5))
  (aRet (aOp (ra2 modD) (aOp (ra2 fdivD) (aOp (ra2 modD) (aOp (ra2 addD) (aOp (ra2 mulD) (aVar 5) (aVar 5)) (aOp (ra2 mulD) (aD (.int 7)) (aVar 5))) (aD (.int 2147483549))) (aD (.int 8))) (aVar 1)))))))))))
noncomputable abbrev pWords (fDraw : AF) : AS := (aSeq (aAsg (aD (.str "abcdefghijklmnopqrstuvwxyz")) (agN 2))
  (aSeq (aAsg (aCall fDraw 2 (aCons (aVar 0) (aCons (aD (.int 4)) aNil))) (agN 3))
  (aSeq (aIfS (aTest (aOp (ra2 (eqF false)) (aVar 3) (aD (.int 0))))
    (aSeq (aAsg (aOp ixW (aVar 2) (aCall fDraw 2 (aCons (aVar 0) (aCons (aD (.int 26)) aNil)))) (agN 4))
  (aRet (aStp (aLc (aR1 (aCons (aVar 1) aNil)) (agN 5) aYes (aOp (ra2 mulD) (aVar 4) (aOp (ra2 addD) (aVar 5) (aD (.int 1)))) [5]) (aOp (ra2 subD) (aD (.int 1)) (aOp (ra2 mulD) (aD (.int 2)) (aCall fDraw 2 (aCons (aVar 0) (aCons (aD (.int 2)) aNil))))))))
    aNext)
  (aSeq (aAsg (aBM "str" joinW (aD (.str "")) (aCons (aLc (aR1 (aCons (aCall fDraw 2 (aCons (aVar 0) (aCons (aD (.int 7)) aNil))) aNil)) (agN 5) aYes (aOp ixW (aVar 2) (aCall fDraw 2 (aCons (aVar 0) (aCons (aD (.int 26)) aNil)))) [5]) aNil)) (agN 6))
  (aSeq (aAsg (aCall fDraw 2 (aCons (aVar 0) (aCons (aOp (ra2 addD) (aCB lenW (aCons (aVar 6) aNil)) (aD (.int 1))) aNil))) (agN 7))
  (aSeq (aAsg (aCall fDraw 2 (aCons (aVar 0) (aCons (aD (.int 26)) aNil))) (agN 8))
  (aSeq (aAsg (aOp ixW (aLst (aCons (aD (.int 1)) (aCons (aD (.int 3)) (aCons (aD (.int 5)) (aCons (aD (.int 7)) (aCons (aD (.int 9)) (aCons (aD (.int 25)) aNil))))))) (aCall fDraw 2 (aCons (aVar 0) (aCons (aD (.int 6)) aNil)))) (agN 9))
  (aSeq (aAsg (aLstC aNil) (agN 10))
  (aSeq (aFor (aR1 (aCons (aVar 1) aNil)) (agN 5)
    (aSeq (aAsg (aOp (ra2 mulD) (aOp ixW (aVar 2) (aCall fDraw 2 (aCons (aVar 0) (aCons (aD (.int 26)) aNil)))) (aCall fDraw 2 (aCons (aVar 0) (aCons (aD (.int 2)) aNil)))) (agN 11))
  (aSeq (aAsg (aOp ixW (aVar 2) (aOp (ra2 modD) (aOp (ra2 addD) (aVar 8) (aOp (ra2 mulD) (aVar 5) (aVar 9))) (aD (.int 26)))) (agN 12))
  (aDrop (aBM "list" appendW (aVar 10) (aCons (aOp (ra2 addD) (aOp (ra2 addD) (aOp (ra2 addD) (aSl (aVar 6) aNoP (aPart (aVar 7))) (aVar 12)) (aSl (aVar 6) (aPart (aVar 7)) aNoP)) (aVar 11)) aNil))))))
  (aRet (aVar 10)))))))))))
noncomputable abbrev pDeed (fDraw : AF) : AS := (aSeq (aAsg (aD (.str "abcdefghijklmnopqrstuvwxyz ")) (agN 4))
  (aSeq (aAsg (aBM "str" joinW (aD (.str "")) (aCons (aLc (aR1 (aCons (aOp (ra2 addD) (aD (.int 1)) (aCall fDraw 2 (aCons (aVar 0) (aCons (aD (.int 5)) aNil)))) aNil)) (agN 6) aYes (aOp ixW (aVar 4) (aCall fDraw 2 (aCons (aVar 0) (aCons (aD (.int 27)) aNil)))) [6]) aNil)) (agN 5))
  (aSeq (aAsg (aCall fDraw 2 (aCons (aVar 0) (aCons (aD (.int 6)) aNil))) (agN 7))
  (aSeq (aAsg (aLc (aIt (aVar 3)) (agN 9) aYes (aOp ixW (aOp ixW (aOp ixW (aOp ixW (aVar 1) (aD (.str "changes"))) (aVar 9)) (aD (.int 3))) (aD (.int 0))) [9]) (agN 8))
  (aSeq (aAsg (aLc (aR1 (aCons (aCB lenW (aCons (aVar 3) aNil)) aNil)) (agN 6) (aTest (aOp (ra2 (eqF false)) (aOp ixW (aVar 8) (aVar 6)) (aD (.str "hang")))) (aOp ixW (aVar 3) (aVar 6)) [6]) (agN 10))
  (aSeq (aIfS (aAnd (aTest (aOp (ra2 (eqF false)) (aVar 7) (aD (.int 0)))) (aTest (aOp (ra2 (ordF fGt)) (aCB lenW (aCons (aVar 2) aNil)) (aD (.int 1)))))
    (aRet (aTup (aCons (aD (.str "join")) aNil)))
    aNext)
  (aSeq (aIfS (aAnd (aTest (aOp (ra2 (eqF false)) (aVar 7) (aD (.int 1)))) (aAnd (aTest (aOp (inW false) (aD (.str "put")) (aVar 8))) (aTest (aOp (ra2 (ordF fLt)) (aCB lenW (aCons (aOp ixW (aVar 1) (aD (.str "hangs"))) aNil)) (aD (.int 6))))))
    (aRet (aTup (aCons (aD (.str "hang")) (aCons (aD (.int 0)) (aCons (aD (.int 1)) (aCons (aOp ixW (aLst (aCons (aD (.str "shut")) (aCons (aD (.str "wide")) aNil))) (aCall fDraw 2 (aCons (aVar 0) (aCons (aD (.int 2)) aNil)))) (aCons (aVar 5) aNil)))))))
    aNext)
  (aSeq (aIfS (aAnd (aTest (aOp (ra2 (eqF false)) (aVar 7) (aD (.int 2)))) (aTest (aOp (ra2 (eqF true)) (aVar 10) (aLst aNil))))
    (aRet (aTup (aCons (aD (.str "answer")) (aCons (aOp ixW (aVar 10) (aCall fDraw 2 (aCons (aVar 0) (aCons (aCB lenW (aCons (aVar 10) aNil)) aNil)))) (aCons (aVar 5) aNil)))))
    aNext)
  (aRet (aTup (aCons (aD (.str "put")) (aCons (aD (.int 0)) (aCons (aVar 5) aNil)))))))))))))
noncomputable abbrev pStep (fDraw fDeed : AF) : AS := (aSeq (aAsg (aOp ixW (aVar 2) (aCall fDraw 2 (aCons (aVar 0) (aCons (aCB lenW (aCons (aVar 2) aNil)) aNil)))) (agN 3))
  (aSeq (aAsg (aCB srtW (aCons (aOp ixW (aVar 1) (aD (.str "changes"))) aNil)) (agN 4))
  (aSeq (aAsg (aIf (aTest (aOp (inW false) (aVar 3) (aOp ixW (aVar 1) (aD (.str "last"))))) (aLstC (aCons (aOp ixW (aOp ixW (aVar 1) (aD (.str "last"))) (aVar 3)) aNil)) (aLstC aNil)) (agN 5))
  (aSeq (aIfS (aAnd (aTest (aOp (ra2 (eqF true)) (aVar 4) (aLst aNil))) (aTest (aOp (ra2 (ordF fLt)) (aCall fDraw 2 (aCons (aVar 0) (aCons (aD (.int 5)) aNil))) (aD (.int 2)))))
    (aDrop (aBM "list" appendW (aVar 5) (aCons (aOp ixW (aVar 4) (aCall fDraw 2 (aCons (aVar 0) (aCons (aCB lenW (aCons (aVar 4) aNil)) aNil)))) aNil)))
    aNext)
  (aSeq (aAsg (aDNew true) (agN 6))
  (aSeq (aFor (aIt (aVar 5)) (agN 7)
    (aFor (aIt (aOp (ra2 addD) (aOp ixW (aOp ixW (aVar 1) (aD (.str "knows"))) (aVar 7)) (aLst (aCons (aVar 7) aNil)))) (agN 8)
    (aDPut (aVar 6) (aVar 8) (aD (.bool true)))))
  (aSeq (aAsg (aCB srtW (aCons (aVar 6) aNil)) (agN 9))
  (aSeq (aAsg (aDNew true) (agN 10))
  (aSeq (aFor (aIt (aVar 9)) (agN 8)
    (aFor (aIt (aOp ixW (aOp ixW (aVar 1) (aD (.str "knows"))) (aVar 8))) (agN 7)
    (aDPut (aVar 10) (aVar 7) (aD (.bool true)))))
  (aSeq (aAsg (aCB tupleW (aCons (aLc (aIt (aVar 9)) (agN 8) (aTest (aOp (inW true) (aVar 8) (aVar 10))) (aVar 8) [8]) aNil)) (agN 11))
  (aSeq (aAsg (aTup (aCons (aOp (ra2 addD) (aD (.int 1)) (aMaxD (aCons (aLc (aIt (aVar 9)) (agN 8) aYes (aOp ixW (aVar 8) (aD (.int 0))) [8]) aNil) (aCons (aD (.int 0)) aNil))) (aCons (aVar 3) aNil))) (agN 12))
  (aSeq (aAsg (aCall fDeed 4 (aCons (aVar 0) (aCons (aVar 1) (aCons (aVar 11) (aCons (aVar 9) aNil))))) (agN 13))
  (aSeq (aIfS (aTest (aOp (ra2 (eqF false)) (aOp ixW (aVar 13) (aD (.int 0))) (aD (.str "hang"))))
    (aDrop (aBM "list" appendW (aOp ixW (aVar 1) (aD (.str "hangs"))) (aCons (aVar 12) aNil)))
    aNext)
  (aSeq (aDPut (aOp ixW (aVar 1) (aD (.str "changes"))) (aVar 12) (aTup (aCons (aVar 12) (aCons (aOp ixW (aVar 2) (aCall fDraw 2 (aCons (aVar 0) (aCons (aCB lenW (aCons (aVar 2) aNil)) aNil)))) (aCons (aVar 11) (aCons (aVar 13) aNil))))))
  (aSeq (aDPut (aOp ixW (aVar 1) (aD (.str "knows"))) (aVar 12) (aVar 9))
  (aDPut (aOp ixW (aVar 1) (aD (.str "last"))) (aVar 3) (aVar 12)))))))))))))))))
noncomputable abbrev pWorld (fStep : AF) : AS := (aSeq (aAsg (aDisp [((aD (.str "changes")), (aDNew true)), ((aD (.str "knows")), (aDNew true)), ((aD (.str "last")), (aDNew false)), ((aD (.str "hangs")), (aLstC aNil))]) (agN 3))
  (aSeq (aFor (aR1 (aCons (aVar 2) aNil)) (agN 4)
    (aDrop (aCall fStep 3 (aCons (aVar 0) (aCons (aVar 3) (aCons (aVar 1) aNil))))))
  (aRet (aVar 3))))
noncomputable abbrev pLedger : AS := (aRet (aCB tupleW (aCons (aLc (aIt (aCB srtW (aCons (aOp ixW (aVar 0) (aD (.str "changes"))) aNil))) (agN 2) (aTest (aOp (inW false) (aVar 2) (aVar 1))) (aOp ixW (aOp ixW (aVar 0) (aD (.str "changes"))) (aVar 2)) [2]) aNil)))
end Lw

/-! AwR: running abstract programs, step by step from the head. -/
namespace Aw
open PySem PySem.Spec PyProof.Rows L2 Mw
def tstB (B : Bool → Sto → Prop) (x : W) (σ : Sto) : Prop := ∃ b, x = .d (.bool b) ∧ B b σ
def purL (P : List PyData → Prop) (ws : List W) : Prop := ∃ ds, pures ws = some ds ∧ ds.length ≤ sizeLine ∧ P ds
def pntI (O : Option Int → Sto → Prop) (w : W) (σ : Sto) : Prop := ∃ i, w = .d (.int i) ∧ O (some i) σ
def rngI (S : Int → Prop) (ws : List W) : Prop := ∃ j : Int, ws = [.d (.int j)] ∧ -(2 ^ 62) ≤ j ∧ j < 2 ^ 62 ∧ S j
noncomputable def putD (S : Sto → Prop) (w d y : W) (σ : Sto) : Prop := ∃ i t kvs kd, d = .ref i ∧ y = .d kd ∧ σ[i]? = some (.dct t kvs) ∧ (if t = true then isKT kd = true else isK kd = true) ∧ kvs.length < sizeLine ∧ S (σ.set i (.dct t (dput kvs kd w)))
section
variable {k : AK} {e : Ev} {σ : Sto} {Q : QK} {X : XQ} {a b : AS} {fa fb fc : AE} {ft fu : AT} {fr : AA} {g : AG} {R : List W → (Sto → Prop) → Sto → Prop} {B : Bool → Sto → Prop} {L : List W → Sto → Prop} {N : Ev → Sto → Prop} {w : W} {i j : Nat}
theorem r_fn {n : Nat} {ws : List W} {Q : QK} (h : a { nx := fun _ σ' => Q (.d .none) σ', rt := Q, ex := fun _ => X } (aStart n ws) σ) : aFn n a ws σ Q X := h
theorem r_seq (h : a { k with nx := b k } e σ) : aSeq a b k e σ := h
theorem r_next (h : k.nx e σ) : aNext k e σ := h
theorem r_drop (h : fa e σ (fun _ σ1 => k.nx e σ1) (k.ex e)) : aDrop fa k e σ := h
theorem r_ret (h : fa e σ k.rt (k.ex e)) : aRet fa k e σ := h
theorem r_retN (h : k.rt (.d .none) σ) : aRetN k e σ := h
theorem r_ifS (h : ft e σ (fun c σ1 => if c = true then a k e σ1 else b k e σ1) (k.ex e)) : aIfS ft a b k e σ := h
theorem r_asg (h : fa e σ (fun w σ1 => g w e σ1 k.nx) (k.ex e)) : aAsg fa g k e σ := h
theorem r_agN (h : N (e.set i (some w)) σ) : agN i w e σ N := h
theorem r_var (h : e[i]? = some (some w)) (q : Q w σ) : aVar i e σ Q X := ⟨w, h, q⟩
theorem r_d {x : PyData} (q : Q (.d x) σ) : aD x e σ Q X := q
theorem r_op {ra : W → W → Sto → QK → Prop} (h : fa e σ (fun x σ1 => fb e σ1 (fun y σ2 => ra x y σ2 Q) X) X) : aOp ra fa fb e σ Q X := h
theorem r_un {ra : W → Sto → QK → Prop} (h : fa e σ (fun x σ1 => ra x σ1 Q) X) : aUn ra fa e σ Q X := h
theorem r_nil (h : L [] σ) : aNil e σ L X := h
theorem r_cons (h : fa e σ (fun x σ1 => fr e σ1 (fun xs σ2 => L (x :: xs) σ2) X) X) : aCons fa fr e σ L X := h
theorem r_cb {ra : List W → Sto → QK → Prop} (h : fr e σ (fun xs σ1 => ra xs σ1 Q) X) : aCB ra fr e σ Q X := h
theorem r_test (h : fa e σ (fun x σ1 => tstB B x σ1) X) : aTest fa e σ B X := h
theorem r_tbool {c : Bool} (h : B c σ) : tstB B (.d (.bool c)) σ := ⟨c, rfl, h⟩
theorem r_and (h : ft e σ (fun b σ1 => if b = true then fu e σ1 B X else B false σ1) X) : aAnd ft fu e σ B X := h
theorem r_or (h : ft e σ (fun b σ1 => if b = true then B true σ1 else fu e σ1 B X) X) : aOr ft fu e σ B X := h
theorem r_not (h : ft e σ (fun b σ1 => B (!b) σ1) X) : aNot ft e σ B X := h
theorem r_andV (h : fa e σ (fun x σ1 => tstB (fun b σ1 => if b = true then fb e σ1 Q X else Q (.d (.bool false)) σ1) x σ1) X) : aAndV fa fb e σ Q X := h
theorem r_orV (h : fa e σ (fun x σ1 => tstB (fun b σ1 => if b = true then Q (.d (.bool true)) σ1 else fb e σ1 Q X) x σ1) X) : aOrV fa fb e σ Q X := h
theorem r_notV (h : fa e σ (fun x σ1 => tstB (fun b σ1 => Q (.d (.bool (!b))) σ1) x σ1) X) : aNotV fa e σ Q X := h
theorem r_if (h : ft e σ (fun b σ1 => if b = true then fa e σ1 Q X else fb e σ1 Q X) X) : aIf ft fa fb e σ Q X := h
theorem r_iteT {p q : Prop} (h : p) : if true = true then p else q := by rw [if_pos rfl]; exact h
theorem r_iteF {p q : Prop} (h : q) : if false = true then p else q := by rw [if_neg (by decide)]; exact h
theorem r_ite {p q : Prop} {c : Prop} {dc : Decidable c} (h1 : c → p) (h2 : ¬ c → q) : if @decide c dc = true then p else q := by
  by_cases h : c
  · rw [if_pos (decide_eq_true h)]; exact h1 h
  · rw [if_neg (by rw [decide_eq_false h]; decide)]; exact h2 h
theorem r_iteN {p q : Prop} {c : Prop} {dc : Decidable c} (h1 : ¬ c → p) (h2 : c → q) : if (!@decide c dc) = true then p else q := by
  by_cases h : c
  · rw [decide_eq_true h, if_neg (by decide)]; exact h2 h
  · rw [decide_eq_false h, if_pos (by rfl)]; exact h1 h
theorem r_iteB {p q : Prop} {c : Bool} (h1 : c = true → p) (h2 : c = false → q) : if c = true then p else q := by
  cases c with
  | true => rw [if_pos rfl]; exact h1 rfl
  | false => rw [if_neg (by decide)]; exact h2 rfl
theorem r_tup (h : fr e σ (fun ws σ1 => purL (fun ds => Q (.d (.tuple ds)) σ1) ws) X) : aTup fr e σ Q X := h
theorem r_lst (h : fr e σ (fun ws σ1 => purL (fun ds => Q (.d (.list ds)) σ1) ws) X) : aLst fr e σ Q X := h
theorem r_pures {P : List PyData → Prop} {ws : List W} {ds : List PyData} (h : pures ws = some ds) (hl : ds.length ≤ sizeLine) (q : P ds) : purL P ws := ⟨ds, h, hl, q⟩
theorem r_lstC (h : fr e σ (fun ws σ1 => ws.length ≤ sizeLine ∧ Q (.ref σ1.length) (σ1 ++ [.lst ws])) X) : aLstC fr e σ Q X := h
theorem r_dnew {t : Bool} (h : Q (.ref σ.length) (σ ++ [.dct t []])) : aDNew t e σ Q X := h
theorem r_call {mf : AF} {n : Nat} (h : fr e σ (fun ws σ1 => ws.length = n ∧ mf ws σ1 Q X) X) : aCall mf n fr e σ Q X := h
theorem r_2 {f : PyData → PyData → (PyData → Prop) → Prop} {x y : PyData} (h : f x y fun z => Q (.d z) σ) : ra2 f (.d x) (.d y) σ Q := ⟨x, y, rfl, rfl, h⟩
theorem r_1 {f : PyData → (PyData → Prop) → Prop} {x : PyData} (h : f x fun z => Q (.d z) σ) : ra1 f (.d x) σ Q := ⟨x, rfl, h⟩
variable {P : PyData → Prop} {x y : PyData} {m n : Int} {s t : Str}
theorem r_addI (h : P (.int (m + n))) : addD (.int m) (.int n) P := h
theorem r_addS (hl : s.length + t.length ≤ sizeLine) (h : P (.str (s ++ t))) : addD (.str s) (.str t) P := ⟨hl, h⟩
theorem r_addL {xs ys : List PyData} (hl : xs.length + ys.length ≤ sizeLine) (h : P (.list (xs ++ ys))) : addD (.list xs) (.list ys) P := ⟨hl, h⟩
theorem r_addT {xs ys : List PyData} (hl : xs.length + ys.length ≤ sizeLine) (h : P (.tuple (xs ++ ys))) : addD (.tuple xs) (.tuple ys) P := ⟨hl, h⟩
theorem r_subI (h : P (.int (m - n))) : subD (.int m) (.int n) P := h
theorem r_mulI (hc : CMulU m n) (h : P (.int (m * n))) : mulD (.int m) (.int n) P := ⟨hc, h⟩
theorem r_mulS (h0 : 0 ≤ n) (h1 : n ≤ 1000) (h2 : s.length ≤ 1000) (h : P (.str (repS s n.toNat))) : mulD (.str s) (.int n) P := ⟨h0, h1, h2, h⟩
theorem r_modI (hc : 0 < n) (h : P (.int (m % n))) : modD (.int m) (.int n) P := ⟨hc, h⟩
theorem r_fdivI (hc : CDivU m n) (h : P (.int (m / n))) : fdivD (.int m) (.int n) P := ⟨hc, h⟩
theorem r_powI (hc : CPow m n) (h : P (.int (m ^ n.toNat))) : powD (.int m) (.int n) P := ⟨hc, h⟩
theorem r_negI (h : P (.int (-m))) : negD (.int m) P := h
theorem r_eqI (h : P (.bool (decide (m = n)))) : eqF false (.int m) (.int n) P := ⟨True.intro, h⟩
theorem r_eqS (h : P (.bool (decide (s = t)))) : eqF false (.str s) (.str t) P := ⟨True.intro, h⟩
theorem r_neI (h : P (.bool (!decide (m = n)))) : eqF true (.int m) (.int n) P := ⟨True.intro, h⟩
theorem r_neS (h : P (.bool (!decide (s = t)))) : eqF true (.str s) (.str t) P := ⟨True.intro, h⟩
theorem r_ltI (h : P (.bool (decide (m < n)))) : ordF fLt (.int m) (.int n) P := ⟨okLt_int m n, by rw [fLt_int]; exact h⟩
theorem r_leI (h : P (.bool (decide (m ≤ n)))) : ordF fLe (.int m) (.int n) P := ⟨okLt_int m n, by rw [fLe_int]; exact h⟩
theorem r_gtI (h : P (.bool (decide (n < m)))) : ordF fGt (.int m) (.int n) P := ⟨okLt_int m n, by rw [fGt_int]; exact h⟩
theorem r_geI (h : P (.bool (decide (n ≤ m)))) : ordF fGe (.int m) (.int n) P := ⟨okLt_int m n, by rw [fGe_int]; exact h⟩
theorem r_ixT {ds : List PyData} (hi : atI ds m = some x) (h : Q (.d x) σ) : ixW (.d (.tuple ds)) (.d (.int m)) σ Q := ⟨_, rfl, _, rfl, ds.map .d, .d x, rfl, by rw [atI_map, hi]; rfl, h⟩
theorem r_ixL {ds : List PyData} (hi : atI ds m = some x) (h : Q (.d x) σ) : ixW (.d (.list ds)) (.d (.int m)) σ Q := ⟨_, rfl, _, rfl, ds.map .d, .d x, rfl, by rw [atI_map, hi]; rfl, h⟩
theorem r_ixS {c : Nat} (hl : s.length ≤ sizeLine) (hi : atI s.cps.toList m = some c) (h : Q (.d (.str ⟨#[c]⟩)) σ) : ixW (.d (.str s)) (.d (.int m)) σ Q := ⟨_, rfl, _, rfl, hl, c, hi, h⟩
theorem r_ixD {a : W} {kvs : List (PyData × W)} (hp : prsOf σ a = some kvs) (hk : keyC kvs y) (hg : dget kvs y = some w) (h : Q w σ) : ixW a (.d y) σ Q := by
  refine ⟨y, rfl, ?_⟩
  rw [hp]
  exact ⟨hk, w, hg, h⟩
theorem r_ixC {ws : List W} (hc : σ[i]? = some (.lst ws)) (hi : atI ws m = some w) (h : Q w σ) : ixW (.ref i) (.d (.int m)) σ Q := by
  refine ⟨_, rfl, ?_⟩
  have : prsOf σ (.ref i) = none := by simp [prsOf, hc]
  rw [this]
  exact ⟨m, rfl, ws, w, by simp [itemsOf, hc], hi, h⟩
theorem r_lenS (hl : s.length ≤ sizeLine) (h : Q (.d (.int s.length)) σ) : lenW [.d (.str s)] σ Q := ⟨_, rfl, hl, h⟩
theorem r_lenL {ds : List PyData} (h : Q (.d (.int ds.length)) σ) : lenW [.d (.list ds)] σ Q := ⟨_, rfl, _, rfl, by rw [List.length_map]; exact h⟩
theorem r_lenT {ds : List PyData} (h : Q (.d (.int ds.length)) σ) : lenW [.d (.tuple ds)] σ Q := ⟨_, rfl, _, rfl, by rw [List.length_map]; exact h⟩
theorem r_lenC {ws : List W} (hc : σ[i]? = some (.lst ws)) (h : Q (.d (.int ws.length)) σ) : lenW [.ref i] σ Q := ⟨_, rfl, ws, by simp [itemsOf, hc], h⟩
theorem r_bm {T : String} {ra : W → List W → Sto → QK → Prop} (h : fa e σ (fun w σ1 => tyW T σ1 w ∧ fr e σ1 (fun ws σ2 => ra w ws σ2 Q) X) X) : aBM T ra fa fr e σ Q X := h
theorem r_append {ws : List W} (hc : σ[i]? = some (.lst ws)) (hl : ws.length < sizeLine) (h : Q (.d .none) (σ.set i (.lst (ws ++ [w])))) : appendW (.ref i) [w] σ Q := ⟨i, ws, w, rfl, rfl, hc, hl, h⟩
theorem r_join {ys : List Str} (hl : (ys.map (·.length)).sum + ys.length * s.length ≤ 16777216) (h : Q (.d (.str (PySem.Txt.join s ys))) σ) : joinW (.d (.str s)) [.d (.list (ys.map .str))] σ Q := ⟨s, _, ys, rfl, rfl, rfl, hl, h⟩
theorem r_dput {fd fk fv : AE} (h : fv e σ (fun w σ1 => fd e σ1 (fun d σ2 => fk e σ2 (fun y σ3 => putD (fun s => k.nx e s) w d y σ3) (k.ex e)) (k.ex e)) (k.ex e)) : aDPut fd fk fv k e σ := h
theorem r_put {S : Sto → Prop} {kvs : List (PyData × W)} {t : Bool} {kd : PyData} {w : W} (hc : σ[i]? = some (.dct t kvs)) (hk : if t = true then isKT kd = true else isK kd = true) (hl : kvs.length < sizeLine) (h : S (σ.set i (.dct t (dput kvs kd w)))) :
    putD S w (.ref i) (.d kd) σ := ⟨i, t, kvs, kd, rfl, rfl, hc, hk, hl, h⟩
theorem r_sl {fl fu : AO} (h : fa e σ (fun w σ1 => fl e σ1 (fun l σ2 => fu e σ2 (fun u σ3 => slW w l u σ3 Q) X) X) X) : aSl fa fl fu e σ Q X := h
theorem r_noP {O : Option Int → Sto → Prop} (h : O none σ) : aNoP e σ O X := h
theorem r_part {O : Option Int → Sto → Prop} (h : fa e σ (fun w σ1 => pntI O w σ1) X) : aPart fa e σ O X := h
theorem r_pint {O : Option Int → Sto → Prop} (h : O (some m) σ) : pntI O (.d (.int m)) σ := ⟨m, rfl, h⟩
theorem r_slS {l u : Option Int} (hl : s.length ≤ sizeLine) (h : Q (.d (.str (cutS s l u))) σ) : slW (.d (.str s)) l u σ Q := ⟨_, rfl, hl, h⟩
theorem r_slL {ds : List PyData} {l u : Option Int} (h : Q (.d (.list (cutL ds l u))) σ) : slW (.d (.list ds)) l u σ Q := ⟨_, rfl, h⟩
theorem r_slT {ds : List PyData} {l u : Option Int} (h : Q (.d (.tuple (cutL ds l u))) σ) : slW (.d (.tuple ds)) l u σ Q := ⟨_, rfl, h⟩
theorem r_it (h : fa e σ (fun w σ1 => itW σ1 R w) X) : aIt fa e σ R X := h
theorem r_r1 (h : fr e σ (fun ws σ1 => rngI (fun j => R (rngL 0 j.toNat) (fun _ => True) σ1) ws) X) : aR1 fr e σ R X := h
theorem r_rng {S : Int → Prop} (h1 : -(2 ^ 62) ≤ m) (h2 : m < 2 ^ 62) (h : S m) : rngI S [.d (.int m)] := ⟨m, rfl, h1, h2, h⟩
theorem r_tuple {ds : List PyData} (h : Q (.d (.tuple ds)) σ) : tupleW [.d (.list ds)] σ Q := ⟨_, _, ds, rfl, rfl, pures_map ds, h⟩
theorem r_list {ds : List PyData} (h : Q (.d (.list ds)) σ) : listW [.d (.list ds)] σ Q := ⟨_, _, ds, rfl, rfl, pures_map ds, h⟩
theorem r_chain {ra rb : W → W → Sto → QK → Prop} (h : fa e σ (fun x σ1 => fb e σ1 (fun y σ2 => ra x y σ2 (fun z σ3 => tstB (fun k σ3 => if k = true then fc e σ3 (fun w σ4 => rb y w σ4 Q) X else Q (.d (.bool false)) σ3) z σ3)) X) X) : aChain ra rb fa fb fc e σ Q X := h
end
theorem r_l1 {a : W} {p : Prop} (h : p) : [a].length = 1 ∧ p := ⟨rfl, h⟩
theorem r_l2 {a b : W} {p : Prop} (h : p) : [a, b].length = 2 ∧ p := ⟨rfl, h⟩
theorem r_l3 {a b c : W} {p : Prop} (h : p) : [a, b, c].length = 3 ∧ p := ⟨rfl, h⟩
theorem r_l4 {a b c d : W} {p : Prop} (h : p) : [a, b, c, d].length = 4 ∧ p := ⟨rfl, h⟩
theorem r_tyS {σ : Sto} {s : Str} {p : Prop} (h : p) : tyW "str" σ (.d (.str s)) ∧ p := ⟨rfl, h⟩
theorem r_tyC {σ : Sto} {i : Nat} {ws : List W} {p : Prop} (hc : σ[i]? = some (.lst ws)) (h : p) : tyW "list" σ (.ref i) ∧ p := ⟨by simp [tyW, hc], h⟩
theorem r_inL {n : Bool} {x : PyData} {ys : List PyData} {σ : Sto} {Q : QK} (h1 : SeqAt.shaped x = true) (h2 : SeqAt.shaped (.tuple ys) = true) (h : Q (.d (.bool (if n then !ys.any (fun z => PyData.eqv z x) else ys.any (fun z => PyData.eqv z x)))) σ) : inW n (.d x) (.d (.list ys)) σ Q := ⟨x, rfl, ys, rfl, h1, h2, h⟩
theorem r_inT {n : Bool} {x : PyData} {ys : List PyData} {σ : Sto} {Q : QK} (h1 : SeqAt.shaped x = true) (h2 : SeqAt.shaped (.tuple ys) = true) (h : Q (.d (.bool (if n then !ys.any (fun z => PyData.eqv z x) else ys.any (fun z => PyData.eqv z x)))) σ) : inW n (.d x) (.d (.tuple ys)) σ Q := ⟨x, rfl, ys, rfl, h1, h2, h⟩
theorem r_inD {n : Bool} {x : PyData} {b : W} {kvs : List (PyData × W)} {σ : Sto} {Q : QK} (hp : prsOf σ b = some kvs) (hk : keyC kvs x) (h : Q (.d (.bool (if n then !(dget kvs x).isSome else (dget kvs x).isSome))) σ) : inW n (.d x) b σ Q := by
  refine ⟨x, rfl, ?_⟩
  rw [hp]
  exact ⟨hk, h⟩
def stpD (Q : QK) (w y : W) (σ : Sto) : Prop := ∃ ds st, dat σ w = some (.list ds) ∧ y = .d (.int st) ∧ (st = 1 ∨ st = -1) ∧ Q (.d (.list (if st = 1 then ds else ds.reverse))) σ
theorem r_stp {fa fs : AE} {e : Ev} {σ : Sto} {Q : QK} {X : XQ} (h : fa e σ (fun w σ1 => fs e σ1 (fun y σ2 => stpD Q w y σ2) X) X) : aStp fa fs e σ Q X := h
theorem r_stpL {ds : List PyData} {st : Int} {Q : QK} {σ : Sto} (hs : st = 1 ∨ st = -1) (q : Q (.d (.list (if st = 1 then ds else ds.reverse))) σ) : stpD Q (.d (.list ds)) (.d (.int st)) σ := ⟨ds, st, rfl, rfl, hs, q⟩
/-- the turns of a comprehension whose list stays -/
def lcFz (ag : AG) (ft : AT) (fa : AE) (e0 : Ev) (X : XQ) (Q : QK) (items : List W) (stay : Sto → Prop) (σ : Sto) : Prop :=
  lcGo ag ft fa e0 σ.length stay X (fun σf => ∃ ws ds, σf[σ.length]? = some (.lst ws) ∧ FrzAll σ.length σf ws ds ∧ Shed σ.length σ σf ∧ Q (.d (.list ds)) (σf.take σ.length)) items (σ ++ [.lst []])
theorem r_lc {ai : AI} {ag : AG} {ft : AT} {fa : AE} {vs : List Nat} {e : Ev} {σ : Sto} {Q : QK} {X : XQ} (h : ai e σ (fun items stay σ1 => lcFz ag ft fa (wipeE e vs) X Q items stay σ1) X) : aLc ai ag ft fa vs e σ Q X := h
def tgN (acc : List PyData) (Rest : Sto → Prop) (n : Nat) (y : W) (σ4 : Sto) : Prop := ∃ acc4, σ4[n]? = some (.lst acc4) ∧ acc4.length < sizeLine ∧ Rest (σ4.set n (.lst (acc4 ++ [y])))
theorem r_for {ai : AI} {ag : AG} {body : AS} {k : AK} {e : Ev} {σ : Sto} (h : ai e σ (fun items stay σ1 => aLoop ag body stay k items e σ1) (k.ex e)) : aFor ai ag body k e σ := h
theorem r_yes {e : Ev} {σ : Sto} {B : Bool → Sto → Prop} {X : XQ} (h : B true σ) : aYes e σ B X := h
theorem r_itL {R : List W → (Sto → Prop) → Sto → Prop} {σ : Sto} {ds : List PyData} (h : R (ds.map .d) (fun _ => True) σ) : itW σ R (.d (.list ds)) := h
theorem r_itT {R : List W → (Sto → Prop) → Sto → Prop} {σ : Sto} {ds : List PyData} (h : R (ds.map .d) (fun _ => True) σ) : itW σ R (.d (.tuple ds)) := h
/-! ### loops, by what holds ahead of turn j -/
theorem lc_run {ag : AG} {ft : AT} {fa : AE} {e0 : Ev} {n : Nat} {X : XQ} {Fin : Sto → Prop} {stay : Sto → Prop} {items : List W} (I : Nat → List W → Sto → Prop) {σ : Sto} (hn : ∀ j acc σ, I j acc σ → σ.length = n) (h0 : I 0 [] σ)
    (step : ∀ j w acc σ (Rest : Sto → Prop), items[j]? = some w → I j acc σ → (∀ acc' σ', I (j + 1) acc' σ' → Rest (σ' ++ [.lst acc'])) → stay (σ ++ [.lst acc]) ∧ ag w e0 (σ ++ [.lst acc]) (fun e2 σ2 => ft e2 σ2 (fun b σ3 => if b = true then fa e2 σ3 (fun y σ4 => ∃ acc4, σ4[n]? = some (.lst acc4) ∧ acc4.length < sizeLine ∧ Rest (σ4.set n (.lst (acc4 ++ [y])))) X else Rest σ3) X))
    (fin : ∀ acc σ, I items.length acc σ → stay (σ ++ [.lst acc]) ∧ Fin (σ ++ [.lst acc])) : lcGo ag ft fa e0 n stay X Fin items (σ ++ [.lst []]) := by
  have key : ∀ m j acc σ, m + j = items.length → I j acc σ → lcGo ag ft fa e0 n stay X Fin (items.drop j) (σ ++ [.lst acc]) := by
    intro m
    induction m with
    | zero =>
      intro j acc σ hm hi
      have : j = items.length := by omega
      subst this
      rw [List.drop_length]
      exact fin acc σ hi
    | succ m ih =>
      intro j acc σ hm hi
      have hj : j < items.length := by omega
      rw [List.drop_eq_getElem_cons hj]
      exact step j items[j] acc σ _ (List.getElem?_eq_getElem hj) hi fun acc' σ' h => ih (j + 1) acc' σ' (by omega) h
  exact key items.length 0 [] σ (by omega) h0
theorem lc_done {σ σ' : Sto} {acc : List W} {c : List PyData} {Q : QK} (hl : σ'.length = σ.length) (hs : ∀ (i : Nat) (d : Cell), σ'[i]? = some d → σ[i]? = some d ∨ CloC σ.length d) (hp : pures acc = some c) (q : Q (.d (.list c)) σ') :
    ∃ ws ds, (σ' ++ [Cell.lst acc])[σ.length]? = some (.lst ws) ∧ FrzAll σ.length (σ' ++ [.lst acc]) ws ds ∧ Shed σ.length σ (σ' ++ [.lst acc]) ∧ Q (.d (.list ds)) ((σ' ++ [Cell.lst acc]).take σ.length) := by
  refine ⟨acc, c, by rw [← hl]; simp, frzAll_pures hp, ⟨by simp [hl], fun i d hi h => ?_⟩, by rw [← hl]; simpa using q⟩
  rw [List.getElem?_append_left (by omega)] at h
  exact hs i d h
theorem lc_app {σ' : Sto} {n : Nat} {acc : List W} {y : W} {Rest : Sto → Prop} (hn : σ'.length = n) (hl : acc.length < sizeLine) (q : Rest (σ' ++ [.lst (acc ++ [y])])) : ∃ acc4, (σ' ++ [Cell.lst acc])[n]? = some (.lst acc4) ∧ acc4.length < sizeLine ∧ Rest ((σ' ++ [Cell.lst acc]).set n (.lst (acc4 ++ [y]))) :=
  ⟨acc, by rw [← hn]; simp, hl, by rw [← hn]; simpa using q⟩
theorem lc_fz {ag : AG} {ft : AT} {fa : AE} {e0 : Ev} {X : XQ} {Q : QK} {stay : Sto → Prop} {items : List W} {σ : Sto} (I : Nat → List PyData → Sto → Prop) (h0 : I 0 [] σ)
    (sh : ∀ j acc σ', I j acc σ' → σ'.length = σ.length ∧ ∀ (i : Nat) (d : Cell), σ'[i]? = some d → σ[i]? = some d ∨ CloC σ.length d)
    (step : ∀ j w acc σ' (Rest : Sto → Prop), items[j]? = some w → I j acc σ' → (∀ acc' σ'', I (j + 1) acc' σ'' → Rest (σ'' ++ [.lst (acc'.map .d)])) → stay (σ' ++ [.lst (acc.map .d)]) ∧
      ag w e0 (σ' ++ [.lst (acc.map .d)]) (fun e2 σ2 => ft e2 σ2 (fun b σ3 => if b = true then fa e2 σ3 (fun y σ4 => tgN acc Rest σ.length y σ4) X else Rest σ3) X))
    (fin : ∀ acc σ', I items.length acc σ' → stay (σ' ++ [.lst (acc.map .d)]) ∧ Q (.d (.list acc)) σ') : lcFz ag ft fa e0 X Q items stay σ := by
  refine lc_run (fun j acc σ' => ∃ ds, acc = ds.map .d ∧ I j ds σ') (fun j acc σ' ⟨ds, _, h⟩ => (sh j ds σ' h).1) ⟨[], rfl, h0⟩ (fun j w acc σ' Rest hw ⟨ds, e, h⟩ k => ?_) fun acc σ' ⟨ds, e, h⟩ => ?_
  · subst e
    exact step j w ds σ' Rest hw h fun acc' σ'' h' => k _ _ ⟨acc', rfl, h'⟩
  · subst e
    obtain ⟨h1, h2⟩ := sh _ _ _ h
    obtain ⟨f1, f2⟩ := fin ds σ' h
    exact ⟨f1, lc_done h1 h2 (pures_map ds) f2⟩
theorem tg_app {σ' : Sto} {n : Nat} {acc : List PyData} {d : PyData} {Rest : Sto → Prop} (hn : σ'.length = n) (hl : acc.length < sizeLine) (q : Rest (σ' ++ [.lst ((acc ++ [d]).map .d)])) : tgN acc Rest n (.d d) (σ' ++ [.lst (acc.map .d)]) :=
  lc_app hn (by rw [List.length_map]; exact hl) (by simpa using q)
theorem loop_run {ag : AG} {body : AS} {stay : Sto → Prop} {k : AK} {items : List W} (I : Nat → Ev → Sto → Prop) {e : Ev} {σ : Sto} (h0 : I 0 e σ)
    (step : ∀ j w e σ (Rest : Ev → Sto → Prop), items[j]? = some w → I j e σ → (∀ e' σ', I (j + 1) e' σ' → Rest e' σ') → stay σ ∧ ag w e σ (fun e1 σ1 => body { k with nx := Rest } e1 σ1))
    (fin : ∀ e σ, I items.length e σ → stay σ ∧ k.nx e σ) : aLoop ag body stay k items e σ := by
  have key : ∀ m j e σ, m + j = items.length → I j e σ → aLoop ag body stay k (items.drop j) e σ := by
    intro m
    induction m with
    | zero =>
      intro j e σ hm hi
      have : j = items.length := by omega
      subst this
      rw [List.drop_length]
      exact fin e σ hi
    | succ m ih =>
      intro j e σ hm hi
      have hj : j < items.length := by omega
      rw [List.drop_eq_getElem_cons hj]
      exact step j items[j] e σ _ (List.getElem?_eq_getElem hj) hi fun e' σ' h => ih (j + 1) e' σ' (by omega) h
  exact key items.length 0 e σ (by omega) h0
theorem gn_run {α : Type} {ag : AG} {ft : AT} {fa : AE} {e0 : Ev} {stay : Sto → Prop} {X : XQ} {stp : α → W → (α → Prop) → Sto → Prop} {Fin : α → Sto → Prop} {items : List W} (I : Nat → α → Sto → Prop) {a : α} {σ : Sto} (h0 : I 0 a σ)
    (step : ∀ j w a σ (Rest : α → Sto → Prop), items[j]? = some w → I j a σ → (∀ a' σ', I (j + 1) a' σ' → Rest a' σ') → stay σ ∧ ag w e0 σ (fun e2 σ2 => ft e2 σ2 (fun b σ3 => if b = true then fa e2 σ3 (fun y σ4 => stp a y (fun a' => Rest a' σ4) σ4) X else Rest a σ3) X))
    (fin : ∀ a σ, I items.length a σ → stay σ ∧ Fin a σ) : gnGo ag ft fa e0 stay X stp Fin items a σ := by
  have key : ∀ m j a σ, m + j = items.length → I j a σ → gnGo ag ft fa e0 stay X stp Fin (items.drop j) a σ := by
    intro m
    induction m with
    | zero =>
      intro j a σ hm hi
      have : j = items.length := by omega
      subst this
      rw [List.drop_length]
      exact fin a σ hi
    | succ m ih =>
      intro j a σ hm hi
      have hj : j < items.length := by omega
      rw [List.drop_eq_getElem_cons hj]
      exact step j items[j] a σ _ (List.getElem?_eq_getElem hj) hi fun a' σ' h => ih (j + 1) a' σ' (by omega) h
  exact key items.length 0 a σ (by omega) h0
theorem dc_run {ag : AG} {ft : AT} {fk fv : AE} {e0 : Ev} {n : Nat} {X : XQ} {Fin : Sto → Prop} {stay : Sto → Prop} {items : List W} (I : Nat → List (PyData × W) → Sto → Prop) {σ : Sto} (hn : ∀ j acc σ, I j acc σ → σ.length = n) (h0 : I 0 [] σ)
    (step : ∀ j w acc σ (Rest : Sto → Prop), items[j]? = some w → I j acc σ → (∀ acc' σ', I (j + 1) acc' σ' → Rest (σ' ++ [.dct true acc'])) → stay (σ ++ [.dct true acc]) ∧ ag w e0 (σ ++ [.dct true acc]) (fun e2 σ2 => ft e2 σ2 (fun b σ3 => if b = true then fk e2 σ3 (fun y σ4 => fv e2 σ4 (fun z σ5 => ∃ kd acc5, y = .d kd ∧ isKT kd = true ∧ σ5[n]? = some (.dct true acc5) ∧ acc5.length < sizeLine ∧ Rest (σ5.set n (.dct true (dput acc5 kd z)))) X) X else Rest σ3) X))
    (fin : ∀ acc σ, I items.length acc σ → stay (σ ++ [.dct true acc]) ∧ Fin (σ ++ [.dct true acc])) : dcGo ag ft fk fv e0 n stay X Fin items (σ ++ [.dct true []]) := by
  have key : ∀ m j acc σ, m + j = items.length → I j acc σ → dcGo ag ft fk fv e0 n stay X Fin (items.drop j) (σ ++ [.dct true acc]) := by
    intro m
    induction m with
    | zero =>
      intro j acc σ hm hi
      have : j = items.length := by omega
      subst this
      rw [List.drop_length]
      exact fin acc σ hi
    | succ m ih =>
      intro j acc σ hm hi
      have hj : j < items.length := by omega
      rw [List.drop_eq_getElem_cons hj]
      exact step j items[j] acc σ _ (List.getElem?_eq_getElem hj) hi fun acc' σ' h => ih (j + 1) acc' σ' (by omega) h
  exact key items.length 0 [] σ (by omega) h0
end Aw
local macro_rules
  | `(tactic| and_intros) => `(tactic| repeat (first | (with_reducible (first | refine Aw.r_seq ?_ | refine Aw.r_next ?_ | refine Aw.r_drop ?_ | refine Aw.r_ret ?_ | refine Aw.r_retN ?_ | refine Aw.r_ifS ?_ | refine Aw.r_asg ?_ | refine Aw.r_agN ?_ | refine Aw.r_op ?_ | refine Aw.r_un ?_ | refine Aw.r_nil ?_ | refine Aw.r_cons ?_ | refine Aw.r_cb ?_ | refine Aw.r_test ?_ | refine Aw.r_and ?_ | refine Aw.r_or ?_ | refine Aw.r_not ?_ | refine Aw.r_andV ?_ | refine Aw.r_orV ?_ | refine Aw.r_notV ?_ | refine Aw.r_if ?_ | refine Aw.r_tup ?_ | refine Aw.r_lst ?_ | refine Aw.r_lstC ?_ | refine Aw.r_dnew ?_ | refine Aw.r_call ?_ | refine Aw.r_2 ?_ | refine Aw.r_1 ?_ | refine Aw.r_addI ?_ | refine Aw.r_subI ?_ | refine Aw.r_negI ?_ | refine Aw.r_eqI ?_ | refine Aw.r_eqS ?_ | refine Aw.r_neI ?_ | refine Aw.r_neS ?_ | refine Aw.r_ltI ?_ | refine Aw.r_leI ?_ | refine Aw.r_gtI ?_ | refine Aw.r_geI ?_ | refine Aw.r_lenL ?_ | refine Aw.r_lenT ?_ | refine Aw.r_bm ?_ | refine Aw.r_dput ?_ | refine Aw.r_sl ?_ | refine Aw.r_noP ?_ | refine Aw.r_part ?_ | refine Aw.r_pint ?_ | refine Aw.r_slL ?_ | refine Aw.r_slT ?_ | refine Aw.r_it ?_ | refine Aw.r_r1 ?_ | refine Aw.r_tuple ?_ | refine Aw.r_list ?_ | refine Aw.r_chain ?_ | refine Aw.r_iteT ?_ | refine Aw.r_iteF ?_ | refine Aw.r_tbool ?_ | refine Aw.r_fn ?_ | refine Aw.r_d ?_ | refine Aw.r_stp ?_ | refine Aw.r_lc ?_ | refine Aw.r_for ?_ | refine Aw.r_yes ?_ | refine Aw.r_itL ?_ | refine Aw.r_itT ?_ | refine Aw.r_tyS ?_ | refine Aw.r_l1 ?_ | refine Aw.r_l2 ?_ | refine Aw.r_l3 ?_ | refine Aw.r_l4 ?_)) | ((with_reducible apply Aw.r_var); case h => rfl)))

/-! AwM: to want less is easier: where a part may be cut out. -/
namespace Aw
open PySem PySem.Spec PyProof.Rows L2 Mw
class MoE (f : AE) : Prop where
  mo : ∀ {e σ X} {Q Q' : QK}, (∀ w s, Q w s → Q' w s) → f e σ Q X → f e σ Q' X
class MoT (f : AT) : Prop where
  mo : ∀ {e σ X} {Q Q' : Bool → Sto → Prop}, (∀ w s, Q w s → Q' w s) → f e σ Q X → f e σ Q' X
class MoA (f : AA) : Prop where
  mo : ∀ {e σ X} {Q Q' : List W → Sto → Prop}, (∀ w s, Q w s → Q' w s) → f e σ Q X → f e σ Q' X
class MoO (f : AO) : Prop where
  mo : ∀ {e σ X} {Q Q' : Option Int → Sto → Prop}, (∀ w s, Q w s → Q' w s) → f e σ Q X → f e σ Q' X
class MoI (f : AI) : Prop where
  mo : ∀ {e σ X} {Q Q' : List W → (Sto → Prop) → Sto → Prop}, (∀ w p s, Q w p s → Q' w p s) → f e σ Q X → f e σ Q' X
class Mo2 (f : W → W → Sto → QK → Prop) : Prop where
  mo : ∀ {a b σ} {Q Q' : QK}, (∀ w s, Q w s → Q' w s) → f a b σ Q → f a b σ Q'
class Mo1 (f : W → Sto → QK → Prop) : Prop where
  mo : ∀ {a σ} {Q Q' : QK}, (∀ w s, Q w s → Q' w s) → f a σ Q → f a σ Q'
class MoC (f : List W → Sto → QK → Prop) : Prop where
  mo : ∀ {a σ} {Q Q' : QK}, (∀ w s, Q w s → Q' w s) → f a σ Q → f a σ Q'
class MoM (f : W → List W → Sto → QK → Prop) : Prop where
  mo : ∀ {a b σ} {Q Q' : QK}, (∀ w s, Q w s → Q' w s) → f a b σ Q → f a b σ Q'
class MoF (f : AF) : Prop where
  mo : ∀ {ws σ X} {Q Q' : QK}, (∀ w s, Q w s → Q' w s) → f ws σ Q X → f ws σ Q' X
class MoD2 (f : PyData → PyData → (PyData → Prop) → Prop) : Prop where
  mo : ∀ {a b} {Q Q' : PyData → Prop}, (∀ w, Q w → Q' w) → f a b Q → f a b Q'
class MoD1 (f : PyData → (PyData → Prop) → Prop) : Prop where
  mo : ∀ {a} {Q Q' : PyData → Prop}, (∀ w, Q w → Q' w) → f a Q → f a Q'
class MoG (g : AG) : Prop where
  mo : ∀ {w e σ} {N N' : Ev → Sto → Prop}, (∀ e s, N e s → N' e s) → g w e σ N → g w e σ N'
class MoGs (g : List W → Ev → Sto → (Ev → Sto → Prop) → Prop) : Prop where
  mo : ∀ {w e σ} {N N' : Ev → Sto → Prop}, (∀ e s, N e s → N' e s) → g w e σ N → g w e σ N'
class MoS (a : AS) : Prop where
  mo : ∀ {k k' : AK} {e σ}, (∀ e s, k.nx e s → k'.nx e s) → (∀ w s, k.rt w s → k'.rt w s) → k.ex = k'.ex → a k e σ → a k' e σ
section
variable {fa fb fc : AE} {ft fu : AT} {fr fs : AA} {fo fp : AO} {ai : AI} {ag : AG} {a b : AS} {r2 r2' : W → W → Sto → QK → Prop} {r1 : W → Sto → QK → Prop} {rc : List W → Sto → QK → Prop} {rm : W → List W → Sto → QK → Prop} {mf : AF} {d2 : PyData → PyData → (PyData → Prop) → Prop} {d1 : PyData → (PyData → Prop) → Prop}
/-- cut a part out -/
theorem cutE [m : MoE fa] {e : Ev} {σ : Sto} {X : XQ} {Q : QK} (P : QK) (h : fa e σ P X) (k : ∀ w s, P w s → Q w s) : fa e σ Q X := m.mo k h
theorem cutT [m : MoT ft] {e : Ev} {σ : Sto} {X : XQ} {Q : Bool → Sto → Prop} (P : Bool → Sto → Prop) (h : ft e σ P X) (k : ∀ w s, P w s → Q w s) : ft e σ Q X := m.mo k h
theorem cutI [m : MoI ai] {e : Ev} {σ : Sto} {X : XQ} {Q : List W → (Sto → Prop) → Sto → Prop} (P : List W → (Sto → Prop) → Sto → Prop) (h : ai e σ P X) (k : ∀ w p s, P w p s → Q w p s) : ai e σ Q X := m.mo k h
instance {i : Nat} : MoE (aVar i) := ⟨fun k ⟨w, h, q⟩ => ⟨w, h, k _ _ q⟩⟩
instance {x : PyData} : MoE (aD x) := ⟨fun k q => k _ _ q⟩
instance [MoE fa] [MoE fb] [Mo2 r2] : MoE (aOp r2 fa fb) := ⟨fun k q => MoE.mo (f := fa) (fun _ _ q => MoE.mo (f := fb) (fun _ _ q => Mo2.mo k q) q) q⟩
instance [MoE fa] [Mo1 r1] : MoE (aUn r1 fa) := ⟨fun k q => MoE.mo (f := fa) (fun _ _ q => Mo1.mo k q) q⟩
instance : MoA aNil := ⟨fun k q => k _ _ q⟩
instance [MoE fa] [MoA fr] : MoA (aCons fa fr) := ⟨fun k q => MoE.mo (f := fa) (fun _ _ q => MoA.mo (f := fr) (fun _ _ q => k _ _ q) q) q⟩
instance [MoA fr] [MoC rc] : MoE (aCB rc fr) := ⟨fun k q => MoA.mo (f := fr) (fun _ _ q => MoC.mo k q) q⟩
instance [MoE fa] : MoT (aTest fa) := ⟨fun k q => MoE.mo (f := fa) (fun _ _ ⟨b, e, q⟩ => ⟨b, e, k _ _ q⟩) q⟩
theorem ite_mo {c : Prop} [Decidable c] {p q p' q' : Prop} (h1 : p → p') (h2 : q → q') (h : if c then p else q) : if c then p' else q' := by
  by_cases z : c
  · rw [if_pos z] at h ⊢; exact h1 h
  · rw [if_neg z] at h ⊢; exact h2 h
instance [MoT ft] [MoT fu] : MoT (aAnd ft fu) := ⟨fun k q => MoT.mo (f := ft) (fun _ _ q => ite_mo (MoT.mo (f := fu) k) (k _ _) q) q⟩
instance [MoT ft] [MoT fu] : MoT (aOr ft fu) := ⟨fun k q => MoT.mo (f := ft) (fun _ _ q => ite_mo (k _ _) (MoT.mo (f := fu) k) q) q⟩
instance [MoT ft] : MoT (aNot ft) := ⟨fun k q => MoT.mo (f := ft) (fun _ _ q => k _ _ q) q⟩
instance : MoT aYes := ⟨fun k q => k _ _ q⟩
instance [MoE fa] [MoE fb] : MoE (aAndV fa fb) := ⟨fun k q => MoE.mo (f := fa) (fun _ _ ⟨b, e, q⟩ => ⟨b, e, ite_mo (MoE.mo (f := fb) k) (k _ _) q⟩) q⟩
instance [MoE fa] [MoE fb] : MoE (aOrV fa fb) := ⟨fun k q => MoE.mo (f := fa) (fun _ _ ⟨b, e, q⟩ => ⟨b, e, ite_mo (k _ _) (MoE.mo (f := fb) k) q⟩) q⟩
instance [MoE fa] : MoE (aNotV fa) := ⟨fun k q => MoE.mo (f := fa) (fun _ _ ⟨b, e, q⟩ => ⟨b, e, k _ _ q⟩) q⟩
instance [MoT ft] [MoE fa] [MoE fb] : MoE (aIf ft fa fb) := ⟨fun k q => MoT.mo (f := ft) (fun _ _ q => ite_mo (MoE.mo (f := fa) k) (MoE.mo (f := fb) k) q) q⟩
instance [MoE fa] : MoE (aIsN fa) := ⟨fun k q => MoE.mo (f := fa) (fun _ _ q => k _ _ q) q⟩
instance [MoE fa] : MoE (aNotN fa) := ⟨fun k q => MoE.mo (f := fa) (fun _ _ q => k _ _ q) q⟩
instance [MoE fa] [MoE fb] [MoE fc] [Mo2 r2] [Mo2 r2'] : MoE (aChain r2 r2' fa fb fc) := ⟨fun k q => MoE.mo (f := fa) (fun _ _ q => MoE.mo (f := fb) (fun _ _ q => Mo2.mo (fun _ _ ⟨b, e, q⟩ => ⟨b, e, ite_mo (MoE.mo (f := fc) fun _ _ q => Mo2.mo k q) (k _ _) q⟩) q) q) q⟩
instance [MoA fr] : MoE (aTup fr) := ⟨fun k q => MoA.mo (f := fr) (fun _ _ ⟨ds, h, l, q⟩ => ⟨ds, h, l, k _ _ q⟩) q⟩
instance [MoA fr] : MoE (aLst fr) := ⟨fun k q => MoA.mo (f := fr) (fun _ _ ⟨ds, h, l, q⟩ => ⟨ds, h, l, k _ _ q⟩) q⟩
instance [MoA fr] : MoE (aLstC fr) := ⟨fun k q => MoA.mo (f := fr) (fun _ _ ⟨l, q⟩ => ⟨l, k _ _ q⟩) q⟩
instance {t : Bool} : MoE (aDNew t) := ⟨fun k q => k _ _ q⟩
instance [MoA fr] [MoF mf] {n : Nat} : MoE (aCall mf n fr) := ⟨fun k q => MoA.mo (f := fr) (fun _ _ ⟨l, q⟩ => ⟨l, MoF.mo k q⟩) q⟩
instance [MoE fa] [MoO fo] [MoO fp] : MoE (aSl fa fo fp) := ⟨fun k q => MoE.mo (f := fa) (fun w _ q => MoO.mo (f := fo) (fun _ _ q => MoO.mo (f := fp) (fun _ _ q => by
  cases w with
  | scr ns => exact k _ _ q
  | ref i =>
    obtain ⟨x, h, q⟩ := q
    refine ⟨x, h, ?_⟩
    cases x <;> first | exact k _ _ q | exact ⟨q.1, k _ _ q.2⟩ | exact q.elim
  | d y =>
    obtain ⟨x, h, q⟩ := q
    refine ⟨x, h, ?_⟩
    cases x <;> first | exact k _ _ q | exact ⟨q.1, k _ _ q.2⟩ | exact q.elim) q) q) q⟩
instance : MoO aNoP := ⟨fun k q => k _ _ q⟩
instance [MoE fa] : MoO (aPart fa) := ⟨fun k q => MoE.mo (f := fa) (fun _ _ ⟨i, e, q⟩ => ⟨i, e, k _ _ q⟩) q⟩
instance [MoE fa] [MoA fr] [MoM rm] {T : String} : MoE (aBM T rm fa fr) := ⟨fun k q => MoE.mo (f := fa) (fun _ _ ⟨t, q⟩ => ⟨t, MoA.mo (f := fr) (fun _ _ q => MoM.mo k q) q⟩) q⟩
instance [MoE fa] [MoE fb] : MoE (aStp fa fb) := ⟨fun k q => MoE.mo (f := fa) (fun _ _ q => MoE.mo (f := fb) (fun _ _ ⟨ds, st, h1, h2, h3, q⟩ => ⟨ds, st, h1, h2, h3, k _ _ q⟩) q) q⟩
instance [MoA fr] [MoA fs] : MoE (aMaxD fr fs) := ⟨fun k q => MoA.mo (f := fr) (fun _ _ q => MoA.mo (f := fs) (fun _ _ ⟨w, ns, d, h1, h2, h3, q⟩ => ⟨w, ns, d, h1, h2, h3, k _ _ q⟩) q) q⟩
instance [MoE fa] {n : String} : MoE (aIsi n fa) := ⟨fun k q => MoE.mo (f := fa) (fun _ _ ⟨d, b, h1, h2, h3, q⟩ => ⟨d, b, h1, h2, h3, k _ _ q⟩) q⟩
instance [MoD2 d2] : Mo2 (ra2 d2) := ⟨fun k ⟨x, y, h1, h2, q⟩ => ⟨x, y, h1, h2, MoD2.mo (fun _ q => k _ _ q) q⟩⟩
instance [MoD1 d1] : Mo1 (ra1 d1) := ⟨fun k ⟨x, h1, q⟩ => ⟨x, h1, MoD1.mo (fun _ q => k _ _ q) q⟩⟩
instance : MoD2 addD := ⟨fun {a b Q Q'} k q => by cases a <;> cases b <;> first | exact q.elim | exact k _ q | exact ⟨q.1, k _ q.2⟩⟩
instance : MoD2 subD := ⟨fun {a b Q Q'} k q => by cases a <;> cases b <;> first | exact q.elim | exact k _ q⟩
instance : MoD2 mulD := ⟨fun {a b Q Q'} k q => by cases a <;> cases b <;> first | exact q.elim | exact ⟨q.1, k _ q.2⟩ | exact ⟨q.1, q.2.1, q.2.2.1, k _ q.2.2.2⟩⟩
instance : MoD2 fdivD := ⟨fun {a b Q Q'} k q => by cases a <;> cases b <;> first | exact q.elim | exact ⟨q.1, k _ q.2⟩⟩
instance : MoD2 modD := ⟨fun {a b Q Q'} k q => by cases a <;> cases b <;> first | exact q.elim | exact ⟨q.1, k _ q.2⟩⟩
instance : MoD2 powD := ⟨fun {a b Q Q'} k q => by cases a <;> cases b <;> first | exact q.elim | exact ⟨q.1, k _ q.2⟩⟩
instance : MoD1 negD := ⟨fun {a Q Q'} k q => by cases a <;> first | exact q.elim | exact k _ q⟩
instance {n : Bool} : MoD2 (eqF n) := ⟨fun k ⟨h, q⟩ => ⟨h, k _ q⟩⟩
instance {f : PyData → PyData → Bool} : MoD2 (ordF f) := ⟨fun k ⟨h, q⟩ => ⟨h, k _ q⟩⟩
instance {n : Bool} : Mo2 (inW n) := ⟨fun {a b σ Q Q'} k ⟨x, h, q⟩ => by
  refine ⟨x, h, ?_⟩
  cases hp : prsOf σ b with
  | some kvs => rw [hp] at q; exact ⟨q.1, k _ _ q.2⟩
  | none =>
    rw [hp] at q
    obtain ⟨ys, h1, h2, h3, q⟩ := q
    exact ⟨ys, h1, h2, h3, k _ _ q⟩⟩
instance : Mo2 ixW := ⟨fun {a b σ Q Q'} k ⟨y, h, q⟩ => by
  refine ⟨y, h, ?_⟩
  cases hp : prsOf σ a with
  | some kvs =>
    rw [hp] at q
    obtain ⟨h1, w, h2, q⟩ := q
    exact ⟨h1, w, h2, k _ _ q⟩
  | none =>
    rw [hp] at q
    obtain ⟨i, h1, q⟩ := q
    refine ⟨i, h1, ?_⟩
    cases a with
    | ref j => obtain ⟨ws, w, h2, h3, q⟩ := q; exact ⟨ws, w, h2, h3, k _ _ q⟩
    | scr j => obtain ⟨ws, w, h2, h3, q⟩ := q; exact ⟨ws, w, h2, h3, k _ _ q⟩
    | d x =>
      cases x <;> first
        | (obtain ⟨ws, w, h2, h3, q⟩ := q; exact ⟨ws, w, h2, h3, k _ _ q⟩)
        | (obtain ⟨h2, c, h3, q⟩ := q; exact ⟨h2, c, h3, k _ _ q⟩)⟩
instance : MoC lenW := ⟨fun {a σ Q Q'} k ⟨w, h, q⟩ => by
  refine ⟨w, h, ?_⟩
  cases w with
  | ref j => obtain ⟨ws, h2, q⟩ := q; exact ⟨ws, h2, k _ _ q⟩
  | scr j => obtain ⟨ws, h2, q⟩ := q; exact ⟨ws, h2, k _ _ q⟩
  | d x =>
    cases x <;> first
      | (obtain ⟨ws, h2, q⟩ := q; exact ⟨ws, h2, k _ _ q⟩)
      | exact ⟨q.1, k _ _ q.2⟩⟩
instance : MoC listW := ⟨fun k ⟨w, ys, ds, h1, h2, h3, q⟩ => ⟨w, ys, ds, h1, h2, h3, k _ _ q⟩⟩
instance : MoC listCW := ⟨fun k ⟨w, ys, h1, h2, q⟩ => ⟨w, ys, h1, h2, k _ _ q⟩⟩
instance : MoC tupleW := ⟨fun k ⟨w, ys, ds, h1, h2, h3, q⟩ => ⟨w, ys, ds, h1, h2, h3, k _ _ q⟩⟩
instance : MoC ordW := ⟨fun k ⟨x, h1, h2, q⟩ => ⟨x, h1, h2, k _ _ q⟩⟩
instance : MoC intW := ⟨fun k q => q.elim (fun ⟨i, h, q⟩ => .inl ⟨i, h, k _ _ q⟩) fun ⟨i, h, q⟩ => .inr ⟨i, h, k _ _ q⟩⟩
instance : MoC reprW := ⟨fun k ⟨w, d, h1, h2, h3, q⟩ => ⟨w, d, h1, h2, h3, k _ _ q⟩⟩
instance : MoC srtW := ⟨fun k ⟨i, kvs, ns, h1, h2, h3, q⟩ => ⟨i, kvs, ns, h1, h2, h3, k _ _ q⟩⟩
instance : MoC listKW := ⟨fun k ⟨i, kvs, h1, h2, q⟩ => ⟨i, kvs, h1, h2, k _ _ q⟩⟩
instance : MoM appendW := ⟨fun k ⟨i, ys, y, h1, h2, h3, h4, q⟩ => ⟨i, ys, y, h1, h2, h3, h4, k _ _ q⟩⟩
instance : MoM joinW := ⟨fun k ⟨z, w, ys, h1, h2, h3, h4, q⟩ => ⟨z, w, ys, h1, h2, h3, h4, k _ _ q⟩⟩
instance [MoE fa] : MoI (aIt fa) := ⟨fun k q => MoE.mo (f := fa) (fun w _ q => by
  cases w with
  | ref i => exact q.elim (fun ⟨ws, h, q⟩ => .inl ⟨ws, h, k _ _ _ q⟩) fun ⟨t, ws, h, q⟩ => .inr ⟨t, ws, h, k _ _ _ q⟩
  | scr i => exact q.elim
  | d x => cases x <;> first | exact q.elim | exact k _ _ _ q) q⟩
instance [MoA fr] : MoI (aR1 fr) := ⟨fun k q => MoA.mo (f := fr) (fun _ _ ⟨j, h1, h2, h3, q⟩ => ⟨j, h1, h2, h3, k _ _ _ q⟩) q⟩
instance [MoA fr] : MoI (aR2 fr) := ⟨fun k q => MoA.mo (f := fr) (fun _ _ ⟨i, j, h1, h2, q⟩ => ⟨i, j, h1, h2, k _ _ _ q⟩) q⟩
instance {i : Nat} : MoG (agN i) := ⟨fun k q => k _ _ q⟩
instance : MoGs agNil := ⟨fun k q => ⟨q.1, k _ _ q.2⟩⟩
instance {g : List W → Ev → Sto → (Ev → Sto → Prop) → Prop} [MoG ag] [MoGs g] : MoGs (agCons ag g) := ⟨fun k ⟨w, r, h, q⟩ => ⟨w, r, h, MoG.mo (g := ag) (fun _ _ q => MoGs.mo (g := g) k q) q⟩⟩
instance {g : List W → Ev → Sto → (Ev → Sto → Prop) → Prop} {n : Nat} [MoGs g] : MoG (agT n g) := ⟨fun k ⟨ds, h1, h2, q⟩ => ⟨ds, h1, h2, MoGs.mo (g := g) k q⟩⟩
theorem lcGo_mo [MoG ag] [MoT ft] [MoE fa] {e0 : Ev} {n : Nat} {stay : Sto → Prop} {X : XQ} {Fin Fin' : Sto → Prop} (k : ∀ s, Fin s → Fin' s) : ∀ {items : List W} {σ : Sto}, lcGo ag ft fa e0 n stay X Fin items σ → lcGo ag ft fa e0 n stay X Fin' items σ
  | [], _, ⟨h, q⟩ => ⟨h, k _ q⟩
  | w :: r, _, ⟨h, q⟩ => ⟨h, MoG.mo (g := ag) (fun _ _ q => MoT.mo (f := ft) (fun _ _ q => ite_mo (MoE.mo (f := fa) fun _ _ ⟨acc, h1, h2, q⟩ => ⟨acc, h1, h2, lcGo_mo k q⟩) (lcGo_mo k) q) q) q⟩
instance [MoI ai] [MoG ag] [MoT ft] [MoE fa] {vs : List Nat} : MoE (aLc ai ag ft fa vs) := ⟨fun k q => MoI.mo (f := ai) (fun _ _ _ q => lcGo_mo (fun _ ⟨ws, ds, h1, h2, h3, q⟩ => ⟨ws, ds, h1, h2, h3, k _ _ q⟩) q) q⟩
instance [MoI ai] [MoG ag] [MoT ft] [MoE fa] {vs : List Nat} : MoE (aLcC ai ag ft fa vs) := ⟨fun k q => MoI.mo (f := ai) (fun _ _ _ q => lcGo_mo (fun _ q => k _ _ q) q) q⟩
end
end Aw

set_option maxHeartbeats 4000000
/-! LwA: what the law's draws do. -/
namespace Lw
open PySem PySem.Spec PyProof.Rows L2 Mw Aw
abbrev kvF (ns : List Int) (a l n : Int) : List (PyData × W) := [(.str "cells", .d (.list (ns.map .int))), (.str "at", .d (.int a)), (.str "left", .d (.int l)), (.str "count", .d (.int n))]
def IsFeed (c : Cell) : Prop := ∃ ns a l n, c = .dct false (kvF ns a l n) ∧ ns.length ≤ 63 ∧ 0 ≤ a
section
variable (ns : List Int) (a l n : Int)
end
section
variable {σ : Sto} {F : Nat} {ns : List Int} {a l n v : Int} {Q : QK} {S : Sto → Prop}
end
/-- a draw: any number there may be -/
def fDraw : AF := fun ws σ Q _ => ∃ F m c, ws = [.ref F, .d (.int m)] ∧ 0 < m ∧ m < 1073741824 ∧ σ[F]? = some c ∧ IsFeed c ∧ ∀ r c', 0 ≤ r → r < m → IsFeed c' → Q (.d (.int r)) (σ.set F c')
theorem CMulU.l {a b : Int} (h1 : -(2 ^ 64) < a) (h2 : a < 2 ^ 64) : CMulU a b := .inl (.inl ⟨h1, h2⟩)
theorem ne_ints (ns : List Int) : (eqD (.list (ns.map PyData.int)) (.list [])).1 ∧ (eqD (.list (ns.map PyData.int)) (.list [])).2 = decide (ns = []) := ⟨⟨shapedInts ns, by decide +kernel⟩, eqvNil ns⟩
instance : MoF fDraw := ⟨fun k ⟨F, m, c, h1, h2, h3, h4, h5, q⟩ => ⟨F, m, c, h1, h2, h3, h4, h5, fun r c' a b d => k _ _ (q r c' a b d)⟩⟩
/-- the feed -/
def fFeed : AF := fun ws σ Q _ => ∃ ns, ws = [.scr ns] ∧ ns.length ≤ 63 ∧ ∀ c, IsFeed c → Q (.ref σ.length) (σ ++ [c])
end Lw

set_option maxHeartbeats 4000000
/-! LwB: the words of the worlds. -/
namespace Lw
open PySem PySem.Spec PyProof.Rows L2 Mw Aw
/-- the cells: those from before, the feed's turned, and new ones -/
abbrev Sx (σ : Sto) (F : Nat) (c : Cell) (j : Sto) : Sto := σ.set F c ++ j
theorem sx_start {σ : Sto} {F : Nat} {c : Cell} (h : σ[F]? = some c) : σ = Sx σ F c [] := by
  obtain ⟨hl, he⟩ := List.getElem?_eq_some_iff.mp h
  rw [Sx, List.append_nil, ← he, List.set_getElem_self]
theorem sx_at {σ : Sto} {F : Nat} {c : Cell} {j : Sto} (h : F < σ.length) : (Sx σ F c j)[F]? = some c := by
  rw [List.getElem?_append_left (by simpa using h), List.getElem?_set_self h]
theorem sx_set {σ : Sto} {F : Nat} {c c' : Cell} {j : Sto} (h : F < σ.length) : (Sx σ F c j).set F c' = Sx σ F c' j := by
  rw [Sx, List.set_append_left _ _ (by simpa using h), List.set_set]
theorem sx_len {σ : Sto} {F : Nat} {c : Cell} {j : Sto} : (Sx σ F c j).length = σ.length + j.length := by simp
theorem sx_app {σ : Sto} {F : Nat} {c : Cell} {j j' : Sto} : Sx σ F c j ++ j' = Sx σ F c (j ++ j') := List.append_assoc ..
theorem IsFeed.clo {c : Cell} (h : IsFeed c) (n : Nat) : CloC n c := by
  obtain ⟨ns, a, l, k, rfl, _⟩ := h
  intro p hp
  simp only [kvF, List.mem_cons, List.not_mem_nil, or_false] at hp
  rcases hp with rfl | rfl | rfl | rfl <;> exact True.intro
section
variable {σ : Sto} {F : Nat} {c : Cell} {j : Sto} {m : Int} {Q : QK} {X : XQ}
end
theorem rng_at {lo : Int} {n j : Nat} {w : W} (h : (rngL lo n)[j]? = some w) : w = .d (.int (lo + j)) ∧ j < n := by
  unfold rngL at h
  rw [List.getElem?_map] at h
  obtain ⟨i, hi, rfl⟩ := Option.map_eq_some_iff.mp h
  obtain ⟨hl, e⟩ := List.getElem?_eq_some_iff.mp hi
  have : i = j := by simpa using e.symm
  subst this
  exact ⟨rfl, by simpa using hl⟩
theorem rng_len {lo : Int} {n : Nat} : (rngL lo n).length = n := by simp [rngL]
theorem abc_low : ∀ c ∈ (Str.ofString "abcdefghijklmnopqrstuvwxyz").cps.toList, 97 ≤ c ∧ c ≤ 122 := low_of (by decide +kernel)
theorem abc_asc : Asc 26 (Str.ofString "abcdefghijklmnopqrstuvwxyz") := asc_of (by decide +kernel)
theorem abc_len : ((Str.ofString "abcdefghijklmnopqrstuvwxyz").length : Int) = 26 := by decide +kernel
abbrev one (c : Nat) : Str := ⟨#[c]⟩
abbrev ssD (ws : List Str) : PyData := .list (ws.map .str)
/-- the words of a world -/
def fWords : AF := fun ws σ Q _ => ∃ F m c, ws = [.ref F, .d (.int m)] ∧ 0 < m ∧ m ≤ 6 ∧ σ[F]? = some c ∧ IsFeed c ∧ ∀ zs c', (zs.length : Int) = m → (∀ z ∈ zs, Wrd z) → IsFeed c' → Q (.d (ssD zs)) (σ.set F c')
instance : MoF fWords := ⟨fun k ⟨F, m, c, h1, h2, h3, h4, h5, q⟩ => ⟨F, m, c, h1, h2, h3, h4, h5, fun r c' a b d => k _ _ (q r c' a b d)⟩⟩
/-- a letter of a text of small letters, drawn -/
def aSign (v : Nat) (F m : Nat) : AE := aOp ixW (aVar v) (aCall fDraw 2 (aCons (aVar F) (aCons (aD (.int m)) aNil)))
theorem r_sign {z : Str} {n : Nat} {r : Int} {σ : Sto} {Q : QK} (a : Asc n z) (hn : n ≤ 1000000) (h0 : 0 ≤ r) (h1 : r < (z.length : Int)) (q : ∀ c, c ∈ z.cps.toList → Q (.d (.str (one c))) σ) : ixW (.d (.str z)) (.d (.int r)) σ Q := by
  obtain ⟨c, hc, _⟩ := sign_at a h0 h1
  exact r_ixS (a.line hn) hc (q c (at_mem hc))
theorem small {n : Nat} (h : n ≤ 1000) : n < sizeLine := by rw [sizeLine_eq]; omega
end Lw

set_option maxHeartbeats 4000000
/-! LwC: worlds as cells; deeds. -/
namespace Lw
open PySem PySem.Spec PyProof.Rows L2 Mw Aw
theorem nmD_inj {a b : Nm} (h : nmD a = nmD b) : a = b := by
  unfold nmD at h
  simp only [PyData.tuple.injEq, List.cons.injEq, PyData.int.injEq, PyData.str.injEq, and_true] at h
  exact Prod.ext h.1 h.2
abbrev kvW (n : Nat) : List (PyData × W) := [(.str "changes", .ref (n + 1)), (.str "knows", .ref (n + 2)), (.str "last", .ref (n + 3)), (.str "hangs", .ref (n + 4))]
abbrev kv1 (cs : List Ch) : List (PyData × W) := cs.map fun c => (nmD c.nm, .d (chD c))
abbrev kv2 (cs : List Ch) : List (PyData × W) := cs.map fun c => (nmD c.nm, .d (.list (c.kn.map nmD)))
/-- what the cells of a world hold -/
structure WdA (σ : Sto) (n : Nat) (cs : List Ch) : Prop where
  w : σ[n]? = some (.dct false (kvW n))
  a1 : σ[n + 1]? = some (.dct true (kv1 cs))
  a2 : σ[n + 2]? = some (.dct true (kv2 cs))
  a3 : ∃ kvs, σ[n + 3]? = some (.dct false kvs) ∧ (∀ p ∈ kvs, isK p.1 = true ∧ ∃ x, p.2 = .d x) ∧ kvs.length ≤ cs.length ∧ ∀ br, dget kvs (.str br) = (lastOf br cs).map fun x => .d (nmD x)
  a4 : ∃ hs : List Nm, σ[n + 4]? = some (.lst (hs.map fun x => .d (nmD x))) ∧ hs.length ≤ cs.length
def Off (F n : Nat) : Prop := F < n ∨ n + 4 < F
section
variable {σ : Sto} {n : Nat} {cs : List Ch} {Q : QK} {m : Nm} {c : Ch}
theorem WdA.prs (w : WdA σ n cs) : prsOf σ (.ref n) = some (kvW n) := by simp only [prsOf, w.w]
end
def kindN (cs : List Ch) (n : Nm) : Str := ((findC cs n).map fun c => kindS c.deed).getD Str.empty
abbrev abcb : Str := Str.ofString "abcdefghijklmnopqrstuvwxyz "
/-- a deed drawn -/
theorem Wrd.ok {z : Str} (w : Wrd z) : PyData.strOk z = true := strOk_of (List.all_eq_true.mpr fun c hc => decide_eq_true (by have := w.low c hc; omega))
def fDeed : AF := fun ws σ Q _ => ∃ F n cs base fl c, ws = [.ref F, .ref n, .d (.tuple (base.map nmD)), .d (.list (fl.map nmD))] ∧ σ[F]? = some c ∧ IsFeed c ∧ Off F n ∧ WdA σ n cs ∧ (∀ m ∈ fl, m ∈ names cs) ∧ (∀ m ∈ fl, Wrd m.2) ∧ fl.length ≤ 50 ∧
  ∀ deed c', DeedOk cs base fl deed → IsFeed c' → Q (.d (deedD deed)) (σ.set F c')
instance : MoF fDeed := ⟨fun k ⟨F, n, cs, base, fl, c, h1, h2, h3, h4, h5, h6, h7, h8, q⟩ => ⟨F, n, cs, base, fl, c, h1, h2, h3, h4, h5, h6, h7, h8, fun r c' a b => k _ _ (q r c' a b)⟩⟩
theorem sh_strs {n : Nat} : ∀ {zs : List Str}, (∀ z ∈ zs, Asc n z) → PyData.canLayAll0 (zs.map .str) = true ∧ PyData.depthAll (zs.map .str) ≤ 1
  | [], _ => ⟨rfl, by simp [PyData.depthAll]⟩
  | z :: zs, h => by
    obtain ⟨h1, h2⟩ := sh_strs (zs := zs) fun z hz => h z (by simp [hz])
    refine ⟨?_, ?_⟩
    · rw [List.map_cons]
      simp only [PyData.canLayAll0, PyData.canLay0, h1, Bool.and_true]
      unfold PyData.strOk
      rw [← Array.all_toList]
      exact List.all_eq_true.mpr fun c hc => by have := (h z (by simp)).2 c hc; simp; omega
    · rw [List.map_cons]
      simp only [PyData.depthAll, PyData.depth]
      omega
theorem shaped_strs {n : Nat} {zs : List Str} (h : ∀ z ∈ zs, Asc n z) : SeqAt.shaped (.tuple (zs.map .str)) = true := by
  obtain ⟨h1, h2⟩ := sh_strs h
  show (PyData.canLay0 _ && decide (PyData.depth _ ≤ 64)) = true
  rw [Bool.and_eq_true]
  exact ⟨by simpa [PyData.canLay0] using h1, decide_eq_true (by simp only [PyData.depth]; omega)⟩
end Lw

set_option maxHeartbeats 4000000
/-! LwD: one step of a world. -/
namespace Lw
open PySem PySem.Spec PyProof.Rows L2 Mw Aw
abbrev kvY (l : List Nm) : List (PyData × W) := l.map fun m => (nmD m, .d (.bool true))
theorem get_Y (m : Nm) : ∀ l : List Nm, dget (kvY l) (nmD m) = if m ∈ l then some (.d (.bool true)) else none
  | [] => rfl
  | x :: l => by
    rw [show kvY (x :: l) = (nmD x, .d (.bool true)) :: kvY l from rfl]
    by_cases h : x = m
    · rw [dget_pos (by rw [h]), if_pos (by simp [h])]
    · rw [dget_neg (fun z => h (nmD_inj z)), get_Y m l]
      simp [Ne.symm h]
theorem put_Y (l : List Nm) (m : Nm) : dput (kvY l) (nmD m) (.d (.bool true)) = kvY (ins l m) := by
  unfold ins
  by_cases h : m ∈ l
  · rw [dput_old (w := .d (.bool true)) (by rw [get_Y, if_pos h]), if_pos h]
    unfold kvY
    rw [List.map_map]
    refine List.map_congr_left fun x _ => ?_
    simp only [Function.comp]
    split <;> rfl
  · rw [dput_new (by rw [get_Y, if_neg h]), if_neg h]
    simp [kvY]
section
variable {σ : Sto} {F : Nat} {c d : Cell} {j : Sto} {k : Nat}
theorem sx_j : (Sx σ F c j)[σ.length + k]? = j[k]? := by rw [List.getElem?_append_right (by simp)]; simp
theorem sx_j0 : (Sx σ F c j)[σ.length]? = j[0]? := sx_j (k := 0)
theorem sx_sj : (Sx σ F c j).set (σ.length + k) d = Sx σ F c (j.set k d) := by rw [List.set_append_right _ _ (by simp)]; simp
theorem sx_sj0 : (Sx σ F c j).set σ.length d = Sx σ F c (j.set 0 d) := sx_sj (k := 0)
end
def mxD (Q : QK) (ws zs : List W) (σ : Sto) : Prop := ∃ w ns d, ws = [w] ∧ zs = [.d (.int d)] ∧ dat σ w = some (.list (ns.map .int)) ∧ Q (.d (.int (maxZ d ns))) σ
theorem r_maxD {fr fk : AA} {e : Ev} {σ : Sto} {Q : QK} {X : XQ} (h : fr e σ (fun ws σ1 => fk e σ1 (fun zs σ2 => mxD Q ws zs σ2) X) X) : aMaxD fr fk e σ Q X := h
theorem r_mx {σ : Sto} {Q : QK} {ns : List Int} {d : Int} (q : Q (.d (.int (maxZ d ns))) σ) : mxD Q [.d (.list (ns.map .int))] [.d (.int d)] σ := ⟨_, ns, d, rfl, rfl, rfl, q⟩
theorem r_itC {R : List W → (Sto → Prop) → Sto → Prop} {σ : Sto} {i : Nat} {ws : List W} (h : σ[i]? = some (.lst ws)) (q : R ws (fun σ' => σ'[i]? = some (.lst ws)) σ) : itW σ R (.ref i) := .inl ⟨ws, h, q⟩
/-- the cells of a world while it is written -/
structure Cl (σ : Sto) (F n : Nat) (s : Sto) (c k0 k1 k2 k3 k4 : Cell) : Prop where
  len : σ.length ≤ s.length
  f : s[F]? = some c
  h0 : s[n]? = some k0
  h1 : s[n + 1]? = some k1
  h2 : s[n + 2]? = some k2
  h3 : s[n + 3]? = some k3
  h4 : s[n + 4]? = some k4
  old : ∀ i, i < σ.length → i ≠ F → Off i n → s[i]? = σ[i]?
theorem set_at {s : Sto} {i : Nat} {d e : Cell} (h : s[i]? = some d) : (s.set i e)[i]? = some e := List.getElem?_set_self (List.getElem?_eq_some_iff.mp h).1
theorem set_ne {s : Sto} {i l : Nat} {e : Cell} (h : i ≠ l) : (s.set i e)[l]? = s[l]? := List.getElem?_set_ne h
section
variable {σ : Sto} {F n : Nat} {s : Sto} {c k0 k1 k2 k3 k4 d : Cell}
theorem Cl.s1 (a : Cl σ F n s c k0 k1 k2 k3 k4) (o : Off F n) : Cl σ F n (s.set (n + 1) d) c k0 d k2 k3 k4 := by
  unfold Off at o
  exact ⟨by simpa using a.len, by rw [set_ne (by omega)]; exact a.f, by rw [set_ne (by omega)]; exact a.h0, set_at a.h1, by rw [set_ne (by omega)]; exact a.h2, by rw [set_ne (by omega)]; exact a.h3, by rw [set_ne (by omega)]; exact a.h4, fun i h1 h2 h3 => by unfold Off at h3; rw [set_ne (by omega)]; exact a.old i h1 h2 h3⟩
theorem Cl.s2 (a : Cl σ F n s c k0 k1 k2 k3 k4) (o : Off F n) : Cl σ F n (s.set (n + 2) d) c k0 k1 d k3 k4 := by
  unfold Off at o
  exact ⟨by simpa using a.len, by rw [set_ne (by omega)]; exact a.f, by rw [set_ne (by omega)]; exact a.h0, by rw [set_ne (by omega)]; exact a.h1, set_at a.h2, by rw [set_ne (by omega)]; exact a.h3, by rw [set_ne (by omega)]; exact a.h4, fun i h1 h2 h3 => by unfold Off at h3; rw [set_ne (by omega)]; exact a.old i h1 h2 h3⟩
theorem Cl.s3 (a : Cl σ F n s c k0 k1 k2 k3 k4) (o : Off F n) : Cl σ F n (s.set (n + 3) d) c k0 k1 k2 d k4 := by
  unfold Off at o
  exact ⟨by simpa using a.len, by rw [set_ne (by omega)]; exact a.f, by rw [set_ne (by omega)]; exact a.h0, by rw [set_ne (by omega)]; exact a.h1, by rw [set_ne (by omega)]; exact a.h2, set_at a.h3, by rw [set_ne (by omega)]; exact a.h4, fun i h1 h2 h3 => by unfold Off at h3; rw [set_ne (by omega)]; exact a.old i h1 h2 h3⟩
theorem Cl.s4 (a : Cl σ F n s c k0 k1 k2 k3 k4) (o : Off F n) : Cl σ F n (s.set (n + 4) d) c k0 k1 k2 k3 d := by
  unfold Off at o
  exact ⟨by simpa using a.len, by rw [set_ne (by omega)]; exact a.f, by rw [set_ne (by omega)]; exact a.h0, by rw [set_ne (by omega)]; exact a.h1, by rw [set_ne (by omega)]; exact a.h2, by rw [set_ne (by omega)]; exact a.h3, set_at a.h4, fun i h1 h2 h3 => by unfold Off at h3; rw [set_ne (by omega)]; exact a.old i h1 h2 h3⟩
end
def fStep : AF := fun ws σ Q _ => ∃ F n cs zs c, ws = [.ref F, .ref n, .d (ssD zs)] ∧ σ[F]? = some c ∧ IsFeed c ∧ Off F n ∧ WdA σ n cs ∧ 0 < zs.length ∧ zs.length ≤ 6 ∧ (∀ z ∈ zs, Wrd z) ∧ Wr zs cs ∧ cs.length ≤ 49 ∧
  ∀ ch c' σ', StepOk zs cs ch → IsFeed c' → σ'[F]? = some c' → WdA σ' n (cs ++ [ch]) → σ'.length = σ.length → (∀ i, i ≠ F → Off i n → σ'[i]? = σ[i]?) → Q (.d .none) σ'
instance : MoF fStep := ⟨fun k ⟨F, n, cs, zs, c, h1, h2, h3, h4, h5, h6, h7, h8, h9, h10, q⟩ => ⟨F, n, cs, zs, c, h1, h2, h3, h4, h5, h6, h7, h8, h9, h10, fun a1 a2 a3 a4 a5 a6 a7 a8 a9 => k _ _ (q a1 a2 a3 a4 a5 a6 a7 a8 a9)⟩⟩
end Lw

set_option maxHeartbeats 4000000
/-! LwE: one step of a world is what it should be. -/
namespace Lw
open PySem PySem.Spec PyProof.Rows L2 Mw Aw
abbrev nmW (l : List Nm) : List W := l.map fun x => .d (nmD x)
theorem take_snoc {α : Type} {l : List α} {i : Nat} {x : α} (h : l[i]? = some x) : l.take (i + 1) = l.take i ++ [x] := by rw [List.take_add_one, h]; rfl
theorem knOf_eq {cs : List Ch} {g : Nm} {ch : Ch} (h : findC cs g = some ch) : knOf cs g = ch.kn := by unfold knOf; rw [h]; rfl
section
variable {s : Sto} {n : Nat} {Q : QK}
end
end Lw

set_option maxHeartbeats 4000000
/-! LwF: the feed, the world, the ledger. -/
namespace Lw
open PySem PySem.Spec PyProof.Rows L2 Mw Aw
def dspC (n : Nat) (Q : QK) (ps : List (W × W)) (σ2 : Sto) : Prop := σ2[n]? = some (.dct false []) ∧ ps.length ≤ 15 ∧ ∃ kvs, mergeD [] ps = some kvs ∧ Q (.ref n) (σ2.set n (.dct false kvs))
theorem r_slX {ns : List Int} {l u : Option Int} {σ : Sto} {Q : QK} (h : Q (.d (.list (cutL (ns.map .int) l u))) σ) : slW (.scr ns) l u σ Q := h
instance : MoF fFeed := ⟨fun k ⟨ns, h1, h2, q⟩ => ⟨ns, h1, h2, fun c hc => k _ _ (q c hc)⟩⟩
/-- a world: five cells behind what there was -/
def fWorld : AF := fun ws σ Q _ => ∃ F zs m c, ws = [.ref F, .d (ssD zs), .d (.int m)] ∧ σ[F]? = some c ∧ IsFeed c ∧ 0 < zs.length ∧ zs.length ≤ 6 ∧ (∀ z ∈ zs, Wrd z) ∧ 0 ≤ m ∧ m ≤ 40 ∧
  ∀ cs c' σ', Wr zs cs → (cs.length : Int) = m → IsFeed c' → σ'[F]? = some c' → WdA σ' σ.length cs → σ'.length = σ.length + 5 → (∀ i, i < σ.length → i ≠ F → σ'[i]? = σ[i]?) → Q (.ref σ.length) σ'
instance : MoF fWorld := ⟨fun k ⟨F, zs, m, c, h1, h2, h3, h4, h5, h6, h7, h8, q⟩ => ⟨F, zs, m, c, h1, h2, h3, h4, h5, h6, h7, h8, fun a1 a2 a3 a4 a5 a6 a7 a8 a9 a10 => k _ _ (q a1 a2 a3 a4 a5 a6 a7 a8 a9 a10)⟩⟩
/-! ### ledgers -/
def ledP (cs : List Ch) (nms : List Nm) : List Ch := ((srt (names cs)).filter fun n => decide (n ∈ nms)).filterMap (findC cs)
abbrev ledD (l : List Ch) : PyData := .tuple (l.map Mw.chD)
def fLedger : AF := fun ws σ Q _ => ∃ n cs nms w, ws = [.ref n, w] ∧ (w = .d (.list (nms.map nmD)) ∨ w = .d (.tuple (nms.map nmD))) ∧ WdA σ n cs ∧ cs.length ≤ 50 ∧ (∀ m ∈ names cs, Wrd m.2) ∧ (∀ m ∈ nms, Wrd m.2) ∧ Q (.d (ledD (ledP cs nms))) σ
instance : MoF fLedger := ⟨fun k ⟨n, cs, nms, w, h1, h2, h3, h4, h5, h6, q⟩ => ⟨n, cs, nms, w, h1, h2, h3, h4, h5, h6, k _ _ q⟩⟩
theorem WdA.app {σ j : Sto} {n : Nat} {cs : List Ch} (w : WdA σ n cs) : WdA (σ ++ j) n cs := by
  have ap : ∀ {i d}, σ[i]? = some d → (σ ++ j)[i]? = some d := fun {i d} h => by rw [List.getElem?_append_left (List.getElem?_eq_some_iff.mp h).1]; exact h
  obtain ⟨kvs, h1, h2⟩ := w.a3
  obtain ⟨hs, g1, g2⟩ := w.a4
  exact ⟨ap w.w, ap w.a1, ap w.a2, ⟨kvs, ap h1, h2⟩, ⟨hs, ap g1, g2⟩⟩
end Lw

set_option maxHeartbeats 4000000
/-! LwG: without. -/
namespace Lw
open PySem PySem.Spec PyProof.Rows L2 Mw Aw
noncomputable abbrev pWo : AS := (aSeq (aAsg (aDcT (aIt (aVar 1)) (agN 3) aYes (aVar 3) (aD (.bool true)) [3]) (agN 2))
  (aSeq (aAsg (aLstC aNil) (agN 4))
  (aSeq (aFor (aIt (aVar 0)) (agN 5)
    (aIfS (aOr (aTest (aOp (inW false) (aOp ixW (aVar 5) (aD (.int 0))) (aVar 2))) (aTest (aAllG (aIt (aOp ixW (aVar 5) (aD (.int 2)))) (agN 6) aYes (aOp (inW false) (aVar 6) (aVar 2)) [6] false)))
    (aDPut (aVar 2) (aOp ixW (aVar 5) (aD (.int 0))) (aD (.bool true)))
    (aDrop (aBM "list" appendW (aVar 4) (aCons (aVar 5) aNil)))))
  (aRet (aCB tupleW (aCons (aVar 4) aNil))))))
def hit (g : List Nm) (c : Ch) : Bool := decide (c.nm ∈ g) || (c.base.map fun b => decide (b ∈ g)).any id
def wout : List Nm → List Ch → List Ch
  | _, [] => []
  | g, c :: r => if hit g c = true then wout (ins g c.nm) r else c :: wout g r
theorem wout_no {g : List Nm} {c : Ch} {r : List Ch} (h : hit g c = false) : wout g (c :: r) = c :: wout g r := by
  rw [wout, if_neg (by rw [h]; decide)]
theorem wout_hit {g : List Nm} {c : Ch} {r : List Ch} (h : hit g c = true) : wout g (c :: r) = wout (ins g c.nm) r := by
  rw [wout, if_pos h]
theorem px_j {σ j : Sto} {k : Nat} : (σ ++ j)[σ.length + k]? = j[k]? := by rw [List.getElem?_append_right (by omega)]; simp
theorem px_j0 {σ j : Sto} : (σ ++ j)[σ.length]? = j[0]? := px_j (k := 0)
theorem px_s {σ j : Sto} {k : Nat} {d : Cell} : (σ ++ j).set (σ.length + k) d = σ ++ j.set k d := by rw [List.set_append_right _ _ (by omega)]; simp
theorem px_s0 {σ j : Sto} {d : Cell} : (σ ++ j).set σ.length d = σ ++ j.set 0 d := px_s (k := 0)
theorem r_dcT {ai : AI} {ag : AG} {ft : AT} {fk fv : AE} {vs : List Nat} {e : Ev} {σ : Sto} {Q : QK} {X : XQ} (h : ai e σ (fun items stay σ1 => dcGo ag ft fk fv (wipeE e vs) σ1.length stay X (fun σf => Q (.ref σ1.length) σf) items (σ1 ++ [.dct true []])) X) : aDcT ai ag ft fk fv vs e σ Q X := h
def anyS (go : Bool) (Q : QK) (_ : Unit) (w : W) (N : Unit → Prop) (σ' : Sto) : Prop := ∃ b, w = .d (.bool b) ∧ if b = go then N () else Q (.d (.bool b)) σ'
theorem gnGo_mo {α : Type} {ag : AG} {ft : AT} {fa : AE} [MoG ag] [MoT ft] [MoE fa] {e0 : Ev} {stay : Sto → Prop} {X : XQ} {stp stp' : α → W → (α → Prop) → Sto → Prop} {Fin Fin' : α → Sto → Prop} (ks : ∀ a w (N N' : α → Prop) s, (∀ a', N a' → N' a') → stp a w N s → stp' a w N' s) (kf : ∀ a s, Fin a s → Fin' a s) :
    ∀ {items : List W} {a : α} {σ : Sto}, gnGo ag ft fa e0 stay X stp Fin items a σ → gnGo ag ft fa e0 stay X stp' Fin' items a σ
  | [], _, _, ⟨h, q⟩ => ⟨h, kf _ _ q⟩
  | w :: r, a, _, ⟨h, q⟩ => ⟨h, MoG.mo (g := ag) (fun _ _ q => MoT.mo (f := ft) (fun _ _ q => ite_mo (MoE.mo (f := fa) fun _ _ q => ks _ _ _ _ _ (fun _ q => gnGo_mo ks kf q) q) (gnGo_mo ks kf) q) q) q⟩
instance {ai : AI} {ag : AG} {ft : AT} {fa : AE} [MoI ai] [MoG ag] [MoT ft] [MoE fa] {vs : List Nat} {go : Bool} : MoE (aAllG ai ag ft fa vs go) := ⟨fun k q => MoI.mo (f := ai) (fun _ _ _ q => gnGo_mo (fun _ _ _ _ _ kn ⟨b, h, q⟩ => ⟨b, h, ite_mo (kn _) (k _ _) q⟩) (fun _ _ q => k _ _ q) q) q⟩
abbrev chW (l : List Ch) : List W := l.map fun c => .d (Mw.chD c)
def fWo : AF := fun ws σ Q _ => ∃ M nms, ws = [.d (ledD M), .d (.tuple (nms.map nmD))] ∧ M.length ≤ 50 ∧ nms.length ≤ 200 ∧ Q (.d (ledD (wout (gather nms) M))) σ
instance : MoF fWo := ⟨fun k ⟨M, nms, h1, h2, h3, q⟩ => ⟨M, nms, h1, h2, h3, k _ _ q⟩⟩
end Lw

set_option maxHeartbeats 4000000
/-! AwG: insert, pop of lists that are cells. -/
namespace Aw
open PySem PySem.Spec PyProof.Rows L2 Mw
variable {Z : Zx} {X : Cx}
theorem paired_take {α β : Type} {R : α → β → Prop} : ∀ {l : List α} {m : List β} (n : Nat), Paired R l m → Paired R (l.take n) (m.take n)
  | _, _, 0, _ => by simp only [List.take_zero]; exact .nil
  | _, _, n + 1, .nil => by simp only [List.take_nil]; exact .nil
  | _, _, n + 1, .cons h t => by simp only [List.take_succ_cons]; exact .cons h (paired_take n t)
theorem paired_drop {α β : Type} {R : α → β → Prop} : ∀ {l : List α} {m : List β} (n : Nat), Paired R l m → Paired R (l.drop n) (m.drop n)
  | _, _, 0, h => by simpa using h
  | _, _, n + 1, .nil => by simp only [List.drop_nil]; exact .nil
  | _, _, n + 1, .cons h t => by simp only [List.drop_succ_cons]; exact paired_drop n t
theorem paired_at {α β : Type} {R : α → β → Prop} : ∀ {l : List α} {m : List β} {n : Nat} {y : β}, Paired R l m → m[n]? = some y → ∃ x, l[n]? = some x ∧ R x y
  | _, _, _, _, .nil, h => by simp at h
  | x :: _, _ :: _, 0, _, .cons h t, e => by simp at e; subst e; exact ⟨x, rfl, h⟩
  | _ :: _, _ :: _, n + 1, _, .cons h t, e => by
    obtain ⟨z, h1, h2⟩ := paired_at (n := n) t (by simpa using e)
    exact ⟨z, by simpa using h1, h2⟩
theorem paired_dl {α β : Type} {R : α → β → Prop} {l : List α} {m : List β} (h : Paired R l m) : Paired R l.dropLast m.dropLast := by
  rw [List.dropLast_eq_take, List.dropLast_eq_take, Paired.len h]
  exact paired_take _ h
theorem paired_er {α β : Type} {R : α → β → Prop} : ∀ {l : List α} {m : List β} (n : Nat), Paired R l m → Paired R (l.eraseIdx n) (m.eraseIdx n)
  | _, _, _, .nil => by simp only [List.eraseIdx_nil]; exact .nil
  | _, _, 0, .cons h t => by simpa using t
  | _, _, n + 1, .cons h t => by simp only [List.eraseIdx_cons_succ]; exact .cons h (paired_er n t)
/-! ### insert -/
def rInsertA : V → List V → Hp → VK → Prop := fun x vs H Q => ∃ (l : Addr) (xs : List V) (i : Int) (y : V), x = .ref l ∧ vs = [.int i, y] ∧ H l = some (.lst xs) ∧ xs.length < sizeLine ∧ 0 ≤ i ∧ i < 2 ^ 63 ∧
    Q .non (upd H l (.lst (xs.take i.toNat ++ [y] ++ xs.drop i.toNat)))
theorem mt_insertA : MtR X "list.insert" rInsertA := mt_insert
def insertW : W → List W → Sto → QK → Prop := fun a ws σ Q => ∃ j ys i y, a = .ref j ∧ ws = [.d (.int i), y] ∧ σ[j]? = some (.lst ys) ∧ ys.length < sizeLine ∧ 0 ≤ i ∧ i < 2 ^ 63 ∧ Q (.d .none) (σ.set j (.lst (ys.take i.toNat ++ [y] ++ ys.drop i.toNat)))
instance sim_insert : SimM Z rInsertA insertW := ⟨fun {ρ σ H x a xs ws Qa Q} rl va vs q kq => by
  obtain ⟨j, ys, i, y, rfl, rfl, hc, hl, h0, h1, q⟩ := q
  obtain ⟨ad, ha, rfl⟩ := va
  cases vs with
  | cons v1 v2 =>
    cases v2 with
    | cons vy v3 =>
      cases v3
      obtain ⟨zs, e1, e2⟩ := rl.cell j ad _ ha hc
      have e : ∀ {v}, WR Z.K ρ H v (.d (.int i)) → v = .int i := fun h => h.int
      rw [e v1]
      rename_i vv
      refine ⟨ad, zs, i, vv, rfl, rfl, e1, by rw [Paired.len e2]; exact hl, h0, h1, ?_⟩
      have gp : Go Z.T ρ H ρ (upd H ad (.lst (zs.take i.toNat ++ [vv] ++ zs.drop i.toNat))) := Go.put (List.mem_of_getElem? ha) e1
      exact kq.d gp (rl.put (c := .lst (ys.take i.toNat ++ [y] ++ ys.drop i.toNat)) ha ⟨_, upd_same, gp.wrs rl (paired_app (paired_app (paired_take _ e2) (.cons vy .nil)) (paired_drop _ e2))⟩) Rp.non q⟩
instance : MoM insertW := ⟨fun k ⟨j, ys, i, y, h1, h2, h3, h4, h5, h6, q⟩ => ⟨j, ys, i, y, h1, h2, h3, h4, h5, h6, k _ _ q⟩⟩
theorem r_insert {σ : Sto} {j : Nat} {ws : List W} {i : Int} {w : W} {Q : QK} (hc : σ[j]? = some (.lst ws)) (hl : ws.length < sizeLine) (h0 : 0 ≤ i) (h1 : i < 2 ^ 63) (h : Q (.d .none) (σ.set j (.lst (ws.take i.toNat ++ [w] ++ ws.drop i.toNat)))) : insertW (.ref j) [.d (.int i), w] σ Q :=
  ⟨j, ws, i, w, rfl, rfl, hc, hl, h0, h1, h⟩
/-! ### pop -/
def popW : W → List W → Sto → QK → Prop := fun a ws σ Q => ∃ j ys y, a = .ref j ∧ ws = [] ∧ σ[j]? = some (.lst ys) ∧ ys[ys.length - 1]? = some y ∧ Q y (σ.set j (.lst ys.dropLast))
instance sim_pop : SimM Z rPop popW := ⟨fun {ρ σ H x a xs ws Qa Q} rl va vs q kq => by
  obtain ⟨j, ys, y, rfl, rfl, hc, hy, q⟩ := q
  obtain ⟨ad, ha, rfl⟩ := va
  cases vs
  obtain ⟨zs, e1, e2⟩ := rl.cell j ad _ ha hc
  obtain ⟨z, hz, rz⟩ := paired_at e2 hy
  have gp : Go Z.T ρ H ρ (upd H ad (.lst zs.dropLast)) := Go.put (List.mem_of_getElem? ha) e1
  refine ⟨ad, zs, z, rfl, rfl, e1, by rw [Paired.len e2]; exact hz, ?_⟩
  exact kq _ _ _ _ y gp (rl.put (c := .lst ys.dropLast) ha ⟨_, upd_same, gp.wrs rl (paired_dl e2)⟩) (gp.wr rl rz) q⟩
instance : MoM popW := ⟨fun k ⟨j, ys, y, h1, h2, h3, h4, q⟩ => ⟨j, ys, y, h1, h2, h3, h4, k _ _ q⟩⟩
def popAtW : W → List W → Sto → QK → Prop := fun a ws σ Q => ∃ j ys i k y, a = .ref j ∧ ws = [.d (.int i)] ∧ σ[j]? = some (.lst ys) ∧ -(2 ^ 63) ≤ i ∧ i < 2 ^ 63 ∧ seqIndex? i ys.length = some k ∧ ys[k]? = some y ∧ Q y (σ.set j (.lst (ys.eraseIdx k)))
instance sim_popAt : SimM Z rPopAt popAtW := ⟨fun {ρ σ H x a xs ws Qa Q} rl va vs q kq => by
  obtain ⟨j, ys, i, k, y, rfl, rfl, hc, h0, h1, hk, hy, q⟩ := q
  obtain ⟨ad, ha, rfl⟩ := va
  obtain ⟨v, rfl, vw⟩ := wrs1 vs
  obtain ⟨zs, e1, e2⟩ := rl.cell j ad _ ha hc
  obtain ⟨z, hz, rz⟩ := paired_at e2 hy
  have gp : Go Z.T ρ H ρ (upd H ad (.lst (zs.eraseIdx k))) := Go.put (List.mem_of_getElem? ha) e1
  have e : ∀ {v}, WR Z.K ρ H v (.d (.int i)) → v = .int i := fun h => h.int
  rw [e vw]
  refine ⟨ad, zs, i, k, z, rfl, rfl, e1, h0, h1, by rw [Paired.len e2]; exact hk, hz, ?_⟩
  exact kq _ _ _ _ y gp (rl.put (c := .lst (ys.eraseIdx k)) ha ⟨_, upd_same, gp.wrs rl (paired_er k e2)⟩) (gp.wr rl rz) q⟩
instance : MoM popAtW := ⟨fun k ⟨j, ys, i, m, y, h1, h2, h3, h4, h5, h6, h7, q⟩ => ⟨j, ys, i, m, y, h1, h2, h3, h4, h5, h6, h7, k _ _ q⟩⟩
/-! ### a list times a number -/
theorem rpAll_rep {K : PySem.W.Frag} {ρ : List Addr} {H : Hp} {xs : List V} {ds : List PyData} (h : RpAll K ρ H xs ds) : ∀ n : Nat, RpAll K ρ H (List.replicate n xs).flatten (List.replicate n ds).flatten
  | 0 => .nil
  | n + 1 => by
    rw [List.replicate_succ, List.replicate_succ, List.flatten_cons, List.flatten_cons]
    exact rpAll_app h (rpAll_rep h n)
def repW : W → W → Sto → QK → Prop := fun a b σ Q => ∃ i ws ds n, a = .ref i ∧ b = .d (.int n) ∧ σ[i]? = some (.lst ws) ∧ pures ws = some ds ∧ 0 ≤ n ∧ n ≤ 1000 ∧ ws.length * n.toNat ≤ sizeLine ∧ Q (.d (.list (List.replicate n.toNat ds).flatten)) σ
instance sim_rep : SimR2 Z rRep repW := ⟨fun {ρ σ H x y a b Qa Q} rl va vb q kq => by
  obtain ⟨i, ws, ds, n, rfl, rfl, hc, hp, h0, h1, hl, q⟩ := q
  obtain ⟨ad, ha, rfl⟩ := va
  obtain ⟨zs, e1, e2⟩ := rl.cell i ad _ ha hc
  have e : ∀ {v}, WR Z.K ρ H v (.d (.int n)) → v = .int n := fun h => h.int
  rw [e vb]
  exact ⟨ad, n, zs, rfl, rfl, e1, by omega, by omega, by rw [Paired.len e2]; exact hl, fun p np => kq.layL rl np (rpAll_rep (pures_rp e2 hp) n.toNat) q⟩⟩
instance : Mo2 repW := ⟨fun k ⟨i, ws, ds, n, h1, h2, h3, h4, h5, h6, h7, q⟩ => ⟨i, ws, ds, n, h1, h2, h3, h4, h5, h6, h7, k _ _ q⟩⟩
theorem r_rep {σ : Sto} {i : Nat} {ws : List W} {ds : List PyData} {n : Int} {Q : QK} (hc : σ[i]? = some (.lst ws)) (hp : pures ws = some ds) (h0 : 0 ≤ n) (h1 : n ≤ 1000) (hl : ws.length * n.toNat ≤ sizeLine) (q : Q (.d (.list (List.replicate n.toNat ds).flatten)) σ) : repW (.ref i) (.d (.int n)) σ Q := ⟨i, ws, ds, n, rfl, rfl, hc, hp, h0, h1, hl, q⟩
end Aw

set_option maxHeartbeats 4000000
/-! AwL: dicts that are walked: locked for a statement or an expression. -/
namespace Aw
open PySem PySem.Spec PyProof.Rows L2 Mw
section
variable {K : PySem.W.Frag} {T : Fx} {ρ ρ' : List Addr} {H H' : Hp} {σ σ' : Sto}
theorem Go0.er (r : Rel K T ρ σ H) (g : Go0 T ρ H ρ' H') {s : List (Option V)} {e : Ev} (h : ER K ρ H s e) : ER K ρ' H' s e := Paired.mapP h fun a b q => by
  cases a with
  | none => cases b with
    | none => exact q
    | some w => exact q
  | some v => cases b with
    | none => exact q
    | some w => exact Go0.wr r g (w := w) q
/-- a cell is locked -/
theorem Rel.lockC (r : Rel K T ρ σ H) {i : Nat} {t : Bool} {kvs : List (PyData × W)} (h : σ[i]? = some (.dct t kvs)) : ∃ a u, ρ[i]? = some a ∧ H a = some u ∧ Mut (some u) ∧ (t = false → ∃ hk, u = .dK hk) ∧ (t = true → ∃ hk, u = .dT hk) ∧
    ∀ od, Go T ρ H ρ (upd H a (.frz od u)) ∧ Rel K T ρ (σ.set i (.lck t kvs)) (upd H a (.frz od u)) := by
  obtain ⟨a, ha, c⟩ := r.at_ h
  have hm := List.mem_of_getElem? ha
  cases t with
  | false =>
    obtain ⟨hk, e1, e2⟩ := c
    refine ⟨a, .dK hk, ha, e1, True.intro, fun _ => ⟨hk, rfl⟩, (fun z => by cases z), fun od => ?_⟩
    have g : Go T ρ H ρ (upd H a (.frz od (.dK hk))) := Go.put hm e1
    exact ⟨g, r.put (c := .lck false kvs) ha ⟨hk, ⟨od, upd_same⟩, g.prs r e2⟩⟩
  | true =>
    obtain ⟨hk, e1, e2⟩ := c
    refine ⟨a, .dT hk, ha, e1, True.intro, (fun z => by cases z), fun _ => ⟨hk, rfl⟩, fun od => ?_⟩
    have g : Go T ρ H ρ (upd H a (.frz od (.dT hk))) := Go.put hm e1
    exact ⟨g, r.put (c := .lck true kvs) ha ⟨hk, ⟨od, upd_same⟩, g.prs r e2⟩⟩
theorem Rel.unlockC (r : Rel K T ρ σ H) {i : Nat} {t : Bool} {kvs : List (PyData × W)} {a : Addr} {u : HO} {od : Obj} (h : σ[i]? = some (.lck t kvs)) (ha : ρ[i]? = some a) (e : H a = some (.frz od u)) : Go0 T ρ H ρ (upd H a u) ∧ Rel K T ρ (σ.set i (.dct t kvs)) (upd H a u) := by
  have c := r.cell i a _ ha h
  have hm := List.mem_of_getElem? ha
  have g : Go0 T ρ H ρ (upd H a u) := Go0.put hm e
  refine ⟨g, ?_⟩
  cases t with
  | false =>
    obtain ⟨hk, ⟨o, e1⟩, e2⟩ := c
    rw [e] at e1
    cases e1
    exact r.put (c := .dct false kvs) ha ⟨hk, upd_same, g.prs r e2⟩
  | true =>
    obtain ⟨hk, ⟨o, e1⟩, e2⟩ := c
    rw [e] at e1
    cases e1
    exact r.put (c := .dct true kvs) ha ⟨hk, upd_same, g.prs r e2⟩
theorem Go.around {a : Addr} {u : HO} {od : Obj} (hm : a ∈ ρ) (e : H a = some u) (mu : Mut (some u)) (g : Go T ρ (upd H a (.frz od u)) ρ' H') : Go T ρ H ρ' (upd H' a u) := by
  have nea : ∀ b, b ∉ ρ → b ≠ a := fun b n z => n (z ▸ hm)
  refine .mk' g.pre (fun b hb => ?_) (fun b o eb n1 n2 => ?_) (fun b hb => ?_) fun b o x eb => ?_
  · rcases g.new b hb with h | h
    · exact .inl h
    · by_cases q : b = a
      · subst q; exact .inl hm
      · rw [upd_ne q] at h; exact .inr h
  · have q := nea b n1
    rw [upd_ne q]
    exact g.keep b o (by rw [upd_ne q]; exact eb) n1 n2
  · by_cases q : b = a
    · subst q; rw [upd_same] at hb; cases hb
    · rw [upd_ne q] at hb
      have := g.th b hb
      rwa [upd_ne q] at this
  · have q : b ≠ a := fun q => by subst q; rw [e] at eb; cases eb; exact mu
    rw [upd_ne q]
    exact g.lk b o x (by rw [upd_ne q]; exact eb)
end
theorem CalG.as {P : Program} {w : World} {Z : Zx} {mg : Str → Option Value} {base : Heap} {x : Str} {k : Nat} {ps : List Str} {mf mf' : AF} (c : CalG P w Z mg base x k ps mf) (h : ∀ ws σ Q X, mf' ws σ Q X → mf ws σ Q X) : CalG P w Z mg base x k ps mf' := by
  have imp : ∀ vs H Q E, spA Z ps.length mf' vs H Q E → spA Z ps.length mf vs H Q E := fun vs H Q E ⟨hl, ρ, σ, ws, Qa, Ea, r, v, q, kq, kx⟩ => ⟨hl, ρ, σ, ws, Qa, Ea, r, v, h _ _ _ _ q, kq, kx⟩
  obtain ⟨f, fd, h1, h2, h3, h4⟩ := c.ex
  exact ⟨f, fd, h1, h2, h3, ⟨fun vs H Q E q => h4.len vs H Q E (imp _ _ _ _ q), fun A outer s H args us vs Q E hr hg he hb hv hs => h4.run A outer s H args us vs Q E hr hg he hb hv (imp _ _ _ _ hs)⟩⟩
def aLockS (b : AS) : AS := fun k e σ => ∃ i t kvs, σ[i]? = some (.dct t kvs) ∧ b { nx := fun e' σ' => σ'[i]? = some (.lck t kvs) ∧ k.nx e' (σ'.set i (.dct t kvs)), rt := fun w σ' => σ'[i]? = some (.lck t kvs) ∧ k.rt w (σ'.set i (.dct t kvs)), ex := fun _ _ _ => False } e (σ.set i (.lck t kvs))
def aLockE (b : AE) : AE := fun e σ Q X => ∃ i t kvs, σ[i]? = some (.dct t kvs) ∧ b e (σ.set i (.lck t kvs)) (fun w σ' => σ'[i]? = some (.lck t kvs) ∧ Q w (σ'.set i (.dct t kvs))) (fun _ _ => False)
section
variable {Z : Zx} {E : L2.St → XK} {ta : TE} {fa : AE} {ts : TS} {sa : AS}
instance sim_lockS [i1 : SimS Z E ts sa] : SimS Z E (tLock ts) (aLockS sa) := ⟨fun {ρ σ H s e k D} r er h kn kr kx => by
  obtain ⟨i, t, kvs, hc, h⟩ := h
  obtain ⟨a, u, ha, ea, mu, _, _, hg⟩ := r.lockC hc
  have hm := List.mem_of_getElem? ha
  refine ⟨a, u, ea, mu, fun od => ?_⟩
  obtain ⟨g, r1⟩ := hg od
  refine i1.sim r1 (g.er r er) h (fun ρ' σ' H' s' e' g' r' er' q => ?_) (fun ρ' σ' H' v w g' r' vw q => ?_) (fun _ _ _ _ _ _ _ _ _ _ _ _ q => q.elim)
  · have e2 := g'.lk a od u upd_same
    obtain ⟨g0, r2⟩ := r'.unlockC q.1 (g'.at_ ha) e2
    exact ⟨e2, kn _ _ _ _ _ (Go.around hm ea mu g') r2 (g0.er r' er') q.2⟩
  · have e2 := g'.lk a od u upd_same
    obtain ⟨g0, r2⟩ := r'.unlockC q.1 (g'.at_ ha) e2
    exact ⟨e2, kr _ _ _ _ _ (Go.around hm ea mu g') r2 (g0.wr r' vw) q.2⟩⟩
instance sim_lockE [i1 : SimE Z E ta fa] : SimE Z E (tLockE ta) (aLockE fa) := ⟨fun {ρ σ H s e Qa Ea Q} r er h kq kx => by
  obtain ⟨i, t, kvs, hc, h⟩ := h
  obtain ⟨a, u, ha, ea, mu, _, _, hg⟩ := r.lockC hc
  have hm := List.mem_of_getElem? ha
  refine ⟨a, u, ea, mu, fun od => ?_⟩
  obtain ⟨g, r1⟩ := hg od
  refine i1.sim r1 (g.er r er) h (fun ρ' σ' H' v w g' r' vw q => ?_) (fun _ _ _ _ _ _ _ _ _ q => q.elim)
  have e2 := g'.lk a od u upd_same
  obtain ⟨g0, r2⟩ := r'.unlockC q.1 (g'.at_ ha) e2
  exact ⟨e2, kq _ _ _ _ _ (Go.around hm ea mu g') r2 (g0.wr r' vw) q.2⟩⟩
theorem r_lockS {k : AK} {e : Ev} {σ : Sto} {i : Nat} {t : Bool} {kvs : List (PyData × W)} (hc : σ[i]? = some (.dct t kvs)) (h : sa { nx := fun e' σ' => σ'[i]? = some (.lck t kvs) ∧ k.nx e' (σ'.set i (.dct t kvs)), rt := fun w σ' => σ'[i]? = some (.lck t kvs) ∧ k.rt w (σ'.set i (.dct t kvs)), ex := fun _ _ _ => False } e (σ.set i (.lck t kvs))) : aLockS sa k e σ := ⟨i, t, kvs, hc, h⟩
theorem r_lockE {e : Ev} {σ : Sto} {Q : QK} {X : XQ} {i : Nat} {t : Bool} {kvs : List (PyData × W)} (hc : σ[i]? = some (.dct t kvs)) (h : fa e (σ.set i (.lck t kvs)) (fun w σ' => σ'[i]? = some (.lck t kvs) ∧ Q w (σ'.set i (.dct t kvs))) (fun _ _ => False)) : aLockE fa e σ Q X := ⟨i, t, kvs, hc, h⟩
theorem r_itK {R : List W → (Sto → Prop) → Sto → Prop} {σ : Sto} {i : Nat} {t : Bool} {kvs : List (PyData × W)} (h : σ[i]? = some (.lck t kvs)) (q : R (kvs.map fun p => .d p.1) (fun σ' => σ'[i]? = some (.lck t kvs)) σ) : itW σ R (.ref i) := .inr ⟨t, kvs, h, q⟩
end
end Aw

set_option maxHeartbeats 4000000
namespace Mw
open PySem PySem.Spec PyProof.Rows L2
/-! ### {k: v for x in .. for y in ..}, keys tuples -/
abbrev dcE (kx vx ta ia : Expr) (fa : List Expr) (tb ib : Expr) (fb : List Expr) (sc : Scope) (p : Pos) : Expr := .DictComp kx vx [⟨ta, ia, fa, 0⟩, ⟨tb, ib, fb, 0⟩] sc p
abbrev tstL (fs : List Expr) (ev : Env) : Sem Bool := forIn fs true fun c r => if r = true then do let ok ← isTrue c ev (eval c ev); pure (ForInStep.yield ok) else pure (ForInStep.yield r)
theorem dcT0 (kx vx ta ia tb ib : Expr) (fa fb : List Expr) (sc : Scope) (p : Pos) (it : Value) (D : Addr) (ev : Env) : compTurn (dcE kx vx ta ia fa tb ib fb sc p) 0 it (.ref D) ev = (do
    standAt ia.pos
    match ← pyNext it with
    | none => pure (.done .next)
    | some v =>
      letOwnedTupleGo ta it v
      assign ta ev v
      let mut ok := true
      for c in fa do
        if ok then ok ← isTrue c ev (eval c ev)
      if ok then
        let x ← eval ib ev
        standAt ib.pos
        let x ← foldedSetIterable ib ev x
        let _ ← runOwn (.compStart (dcE kx vx ta ia fa tb ib fb sc p) 1 (← holding [x] (pyIter x)) (.ref D) ev) ev
      again (.compLoop (dcE kx vx ta ia fa tb ib fb sc p) 0 it (.ref D) ev)) := by rfl
theorem dcT1 (kx vx ta ia tb ib : Expr) (fa fb : List Expr) (sc : Scope) (p : Pos) (it : Value) (D : Addr) (ev : Env) : compTurn (dcE kx vx ta ia fa tb ib fb sc p) 1 it (.ref D) ev = (do
    standAt ib.pos
    match ← pyNext it with
    | none => pure (.done .next)
    | some v =>
      letOwnedTupleGo tb it v
      assign tb ev v
      let mut ok := true
      for c in fb do
        if ok then ok ← isTrue c ev (eval c ev)
      if ok then
        (do
          let kv ← eval kx ev
          let vv ← holding [kv] (eval vx ev)
          standAt { kx.pos with endLine := vx.pos.endLine, endCol := vx.pos.endCol }
          holding [kv, vv] (dictSet D kv vv))
      again (.compLoop (dcE kx vx ta ia fa tb ib fb sc p) 1 it (.ref D) ev)) := by rfl
section
variable {P : Program} {w : World} {A : Around} {R : Result → Shared → Prop} {s : Shared} {kx vx ta ia tb ib : Expr} {fa fb : List Expr} {sc : Scope} {p : Pos} {it : Value} {D : Addr} {ev : Env}
abbrev nB (P : Program) (w : World) (A : Around) (ev : Env) (R : Result → Shared → Prop) := notedBy (model P w) A ev fun e s' => R (.error e) s'
theorem dcL0 (hs : ∀ x, foldedSetIterable ib ev x = pure x) (I : Nat → Shared → Prop)
    (turn : ∀ n s, I n s → wpAny (model P w) A (pyNext it) (fun r s1 => match r with
      | none => R (.ok .next) s1
      | some v => wpAny (model P w) A (letOwnedTupleGo ta it v) (fun _ sa => wpAny (model P w) A (assign ta ev v) (fun _ s2 => wpAny (model P w) A (tstL fa ev) (fun ok s3 =>
          if ok = true then wpAny (model P w) A (eval ib ev) (fun x s4 => wpAny (model P w) A (pyIter x) (fun i1 s5 => codeAny (model P w) A (.compStart (dcE kx vx ta ia fa tb ib fb sc p) 1 i1 (.ref D) ev) (fun r s' => match r with
              | .ok _ => ∃ m, m < n ∧ I m s'
              | .error _ => False) s5) (nB P w A ev R) s4) (nB P w A ev R) s3
          else ∃ m, m < n ∧ I m s3) (nB P w A ev R) s2) (nB P w A ev R) sa) (nB P w A ev R) s1) (nB P w A ev R) s)
    (n : Nat) (h : I n s) : codeAny (model P w) A (.compLoop (dcE kx vx ta ia fa tb ib fb sc p) 0 it (.ref D) ev) R s := by
  refine codeAny_loop rfl I (fun n s hI => ?_) n h
  show wpAny _ A ((compTurn (dcE kx vx ta ia fa tb ib fb sc p) 0 it (.ref D) ev).onRaise fun x => do noteFrame x ev; theTreesLotGoes x) _ _ s
  refine wpAny_noted ?_
  rw [dcT0]
  refine wpAny_bind (wpAny_standAt (wpAny_bind (wpAny_mono (turn n s hI) (fun r s1 h1 => ?_) fun _ _ z => z)))
  cases r with
  | none => exact wpAny_pure h1
  | some v =>
    refine wpAny_bind (wpAny_mono h1 (fun _ sa ha => wpAny_bind (wpAny_mono ha (fun _ s2 h2 => wpAny_bind (wpAny_mono h2 (fun ok s3 h3 => ?_) fun _ _ z => z)) fun _ _ z => z)) fun _ _ z => z)
    cases ok with
    | false => exact wpAny_pure ⟨rfl, h3⟩
    | true =>
      refine wpAny_bind (wpAny_mono h3 (fun x s4 h4 => wpAny_bind (wpAny_standAt (wpAny_bind (wpAny_of_eq (hs x) (wpAny_bind (wpAny_holding (wpAny_mono h4 (fun i1 s5 h5 => wpAny_bind (wpAny_runOwn ?_)) fun _ _ z => z))))))) fun _ _ z => z)
      rw [Around.mark_none]
      refine codeAny_mono h5 fun r s' hr => ?_
      cases r with
      | error e => exact hr.elim
      | ok f => first | exact wpAny_pure ⟨rfl, hr⟩ | exact wpAny_bind (wpAny_pure (wpAny_pure ⟨rfl, hr⟩))
theorem dcL1 (I : Nat → Shared → Prop)
    (turn : ∀ n s, I n s → wpAny (model P w) A (pyNext it) (fun r s1 => match r with
      | none => R (.ok .next) s1
      | some v => wpAny (model P w) A (letOwnedTupleGo tb it v) (fun _ sa => wpAny (model P w) A (assign tb ev v) (fun _ s2 => wpAny (model P w) A (tstL fb ev) (fun ok s3 =>
          if ok = true then wpAny (model P w) A (eval kx ev) (fun kv s4 => wpAny (model P w) A (eval vx ev) (fun vv s5 => wpAny (model P w) A (dictSet D kv vv) (fun _ s6 => ∃ m, m < n ∧ I m s6) (nB P w A ev R) s5) (nB P w A ev R) s4) (nB P w A ev R) s3
          else ∃ m, m < n ∧ I m s3) (nB P w A ev R) s2) (nB P w A ev R) sa) (nB P w A ev R) s1) (nB P w A ev R) s)
    (n : Nat) (h : I n s) : codeAny (model P w) A (.compLoop (dcE kx vx ta ia fa tb ib fb sc p) 1 it (.ref D) ev) R s := by
  refine codeAny_loop rfl I (fun n s hI => ?_) n h
  show wpAny _ A ((compTurn (dcE kx vx ta ia fa tb ib fb sc p) 1 it (.ref D) ev).onRaise fun x => do noteFrame x ev; theTreesLotGoes x) _ _ s
  refine wpAny_noted ?_
  rw [dcT1]
  refine wpAny_bind (wpAny_standAt (wpAny_bind (wpAny_mono (turn n s hI) (fun r s1 h1 => ?_) fun _ _ z => z)))
  cases r with
  | none => exact wpAny_pure h1
  | some v =>
    refine wpAny_bind (wpAny_mono h1 (fun _ sa ha => wpAny_bind (wpAny_mono ha (fun _ s2 h2 => wpAny_bind (wpAny_mono h2 (fun ok s3 h3 => ?_) fun _ _ z => z)) fun _ _ z => z)) fun _ _ z => z)
    cases ok with
    | false => exact wpAny_pure ⟨rfl, h3⟩
    | true =>
      exact wpAny_bind (wpAny_bind (wpAny_mono h3 (fun kv s4 h4 => wpAny_bind (wpAny_holding (wpAny_mono h4 (fun vv s5 h5 => wpAny_bind (wpAny_standAt (wpAny_holding (wpAny_mono h5 (fun _ s6 h6 => wpAny_pure ⟨rfl, h6⟩) fun _ _ z => z)))) fun _ _ z => z))) fun _ _ z => z))
theorem dcS1 (h0 : codeAny (model P w) A (.compLoop (dcE kx vx ta ia fa tb ib fb sc p) 1 it (.ref D) ev) R s)
    (h : wpAny (model P w) A (pyIter it) (fun i s' => codeAny (model P w) A (.compLoop (dcE kx vx ta ia fa tb ib fb sc p) 1 i (.ref D) ev) R s') (nB P w A ev R) s) : codeAny (model P w) A (.compStart (dcE kx vx ta ia fa tb ib fb sc p) 1 it (.ref D) ev) R s := by
  refine codeAny_of_tree ?_
  show wpAny _ _ ((compStart (dcE kx vx ta ia fa tb ib fb sc p) 1 it (.ref D) ev).onRaise fun x => do noteFrame x ev; standAt theWindowsPlace) _ _ s
  refine wpAny_notedAt ?_
  unfold compStart
  show wpAny _ _ (ask >>= _) _ _ s
  refine wpAny_bind (wpAny_askSetting (wpAny_ite ?_))
  split
  · first | exact wpAny_bind (wpAny_pure (wpAny_pure ⟨rfl, h0⟩)) | exact wpAny_pure ⟨rfl, h0⟩
  · have go : wpAny (model P w) A (pyIter it) (fun i s' => wpAny (model P w) A (pure i : Sem Value) (fun i s' => codeAny (model P w) A (.compLoop (dcE kx vx ta ia fa tb ib fb sc p) 1 i (.ref D) ev) R s') (nB P w A ev R) s') (nB P w A ev R) s := wpAny_mono h (fun i s' z => wpAny_pure z) fun _ _ z => z
    first
      | exact wpAny_bind (wpAny_rule (wpAny_bind (wpAny_standAt (wpAny_bind (wpAny_mono h (fun i s' z => wpAny_pure ⟨rfl, z⟩) fun _ _ z => z)))))
      | (refine wpAny_bind (wpAny_rule ?_); show wpAny _ _ (standAt ib.pos >>= _) _ _ s; exact wpAny_bind (wpAny_standAt (wpAny_bind (wpAny_mono h (fun i s' z => wpAny_pure ⟨rfl, z⟩) fun _ _ z => z))))
end
/-- what its turns ask: D is the new dict; vs: the block's names, vs1: those of the second target -/
def tDc2 (wi : TI) (g : TG) (tt : TT) (wi1 : TI) (g1 : TG) (tt1 : TT) (tk tv : TE) (vs vs1 : List Nat) : TE := fun σ H Q => wi σ H fun J H1 => ∀ D, H1 D = none → ∃ W : Nat → Nat → Hp → Prop, (∃ m, W 0 m (upd H1 D (.dT []))) ∧ ∀ i m H, W i m H →
  (J.stop i H ∧ Q (.ref D) H) ∨ (J.go i H ∧ ∃ Nx : Hp → Prop, (∀ H', Nx H' → ∃ m', m' < m ∧ W (i + 1) m' H') ∧ ∀ x H', J.yld i H x H' → g x (wipe σ vs) H' fun σ2 H2 => wipe σ2 vs = wipe σ vs ∧ tt σ2 H2 fun b H3 => if b = true then wi1 σ2 H3 fun J1 H4 =>
      ∃ V : Nat → Nat → Hp → Prop, (∃ m, V 0 m H4) ∧ ∀ j k H, V j k H → (J1.stop j H ∧ Nx H) ∨ (J1.go j H ∧ ∃ Ny : Hp → Prop, (∀ H', Ny H' → ∃ k', k' < k ∧ V (j + 1) k' H') ∧ ∀ x H', J1.yld j H x H' → g1 x (wipe σ2 vs1) H' fun σ3 H5 => wipe σ3 vs1 = wipe σ2 vs1 ∧ tt1 σ3 H5 fun b H6 =>
        if b = true then tk σ3 H6 fun y H7 => tv σ3 H7 fun z H8 => ∃ kvs k b, y = .ref b ∧ H8 b = some (.tup (k.map kV)) ∧ H8 D = some (.dT kvs) ∧ kvs.length < sizeLine ∧ Ny (upd H8 D (.dT (putK kvs k z))) else Ny H6)
    else Nx H3)
abbrev Blk (X : Cx) (sc : Scope) (f : Cx → Prop) : Prop := ∀ (s : Shared) (H : Hp) (C : Addr) (cl : List (Str × Addr)) (fp : List Addr), f (X.blk s H sc (compEnvC sc cl C X.env) fp)
theorem pe_dc2 {X : Cx} {kx vx ta ia tb ib : Expr} {fa fb : List Expr} {sc : Scope} {p : Pos} {own : List (Str × Nat)} {vs1 : List Nat} {wi wi1 : TI} {g g1 : TG} {tt tt1 : TT} {tk tv : TE} (hu : X.A.units + 1 < cLine) (hc : X.calm = true) (hN : X.N.Nodup) (hi : PI X ta ia wi) (ok : BlkOk X.N X.env.scope sc own)
    (hv1 : ∀ i ∈ vs1, i ∈ own.map (·.2)) (hg : Blk X sc fun Y => PG Y ta g) (ht : Blk X sc fun Y => PTs Y fa tt) (hi1 : Blk X sc fun Y => PI Y tb ib wi1) (hg1 : Blk X sc fun Y => PG Y tb g1) (ht1 : Blk X sc fun Y => PTs Y fb tt1) (hk : Blk X sc fun Y => PE Y kx tk) (hv : Blk X sc fun Y => PE Y vx tv)
    (hs : ∀ x, foldedSetIterable ia X.env x = pure x := by intro _; rfl) (hs1 : ∀ env x, foldedSetIterable ib env x = pure x := by intro _ _; rfl) :
    PE X (dcE kx vx ta ia fa tb ib fb sc p) (tDc2 wi g tt wi1 g1 tt1 tk tv (own.map (·.2)) vs1) := by
  refine ⟨fun pins s σ H Q I h => ?_⟩
  rw [arm_eval_DictComp]
  have frees : ∀ y ∈ sc.names, y.2 = .free → ∃ c, X.env.cells.lookup y.1 = some c := fun y hy e => (ok.free y hy e).elim (fun k => I.ok.has _ (.inl k)) fun k => I.ok.has _ (.inr k)
  refine wpAny_comprehension_free rfl hs (closure_ok frees) ok.kind (fun y hy e => by rw [ok.uniq y hy, e]) (thn (hi.run pins s σ H _ I h) fun _ _ hx => thn hx fun _ s2 ⟨it, fp, tn, J, H2, e, I2, T, st2, f2, q⟩ => ?_)
  subst e
  refine wpAny_newObj_type (newEnv_comp ?_)
  obtain ⟨D, hD⟩ : ∃ D, D = s2.heap.objs.size := ⟨_, rfl⟩
  obtain ⟨W, ⟨m0, w0⟩, turn⟩ := q D (I2.hok.fresh (Nat.le_of_eq hD.symm))
  obtain ⟨s3, hs3⟩ : ∃ s3 : Shared, s3 = { s2 with heap := s2.heap.push { cls := .type "dict", data := .dict #[] } } := ⟨_, rfl⟩
  obtain ⟨H3, hH3⟩ : ∃ H3, H3 = upd H2 D (.dT []) := ⟨_, rfl⟩
  rw [← hH3] at w0
  have keep3 : ∀ b o, s2.heap.get? b = some o → s3.heap.get? b = some o := fun b o e => by rw [hs3]; exact Heap.get?_push_of_some _ e
  have I3 : Inv X pins σ H3 s3 := by
    rw [hs3, hH3, hD]
    exact I2.laid (t' := s2.toks) (fun b o e => Heap.get?_push_of_some _ e) (Nat.le_refl _) (dt_empty s2.heap I2.big)
  have f3 : ∀ b ∈ fp, FpOk X pins H3 b ∧ b < s3.heap.objs.size := fun b hb => by
    obtain ⟨o, e, _⟩ := T.obj _ _ st2 b hb
    have hlt := Heap.lt_size e
    refine ⟨⟨?_, (f2 b hb).2⟩, Heap.lt_size (keep3 b o e)⟩
    rw [hH3, upd_ne (by rw [hD]; exact Nat.ne_of_lt hlt)]
    exact (f2 b hb).1
  have I4 := block_start I3 ok hN f3
  have st3 : tn 0 s3.heap := T.keep _ _ _ st2 fun b _ o e => keep3 b o e
  obtain ⟨cl, hcl⟩ : ∃ cl, cl = cellsFrom (s3.heap.objs.size + 1) sc.names (cloFrom X.env.cells sc.names []) := ⟨_, rfl⟩
  have pg := hg s3 H3 s3.heap.objs.size cl fp
  have pt := ht s3 H3 s3.heap.objs.size cl fp
  have pj := hi1 s3 H3 s3.heap.objs.size cl fp
  have ph := hg1 s3 H3 s3.heap.objs.size cl fp
  have pu := ht1 s3 H3 s3.heap.objs.size cl fp
  have pk := hk s3 H3 s3.heap.objs.size cl fp
  have pv := hv s3 H3 s3.heap.objs.size cl fp
  have nfp : ∀ b ∈ fp, H3 b = none := fun b hb => (f3 b hb).1.1
  rw [← hcl] at I4
  obtain ⟨ce, hce⟩ : ∃ ce, ce = compEnvC sc cl s3.heap.objs.size X.env := ⟨_, rfl⟩
  obtain ⟨s4, hs4⟩ : ∃ s4 : Shared, s4 = { s3 with heap := pushCells (s3.heap.push { cls := .type "dict", data := .dict #[] }) sc.names } := ⟨_, rfl⟩
  rw [← hce] at I4 pg pt pk pv pj ph pu
  rw [← hs4] at I4
  have cL : ce.locals = s3.heap.objs.size := by rw [hce]; rfl
  suffices goal' : codeAny (model X.prog X.w) X.A (.compStart (dcE kx vx ta ia fa tb ib fb sc p) 0 (.ref it) (.ref D) ce) (compPost (model X.prog X.w) X.A X.xe none (EP X pins σ Q) (.ref D) s3.heap.objs.size) s4 by
    rw [hce, hcl, hs4, hs3, hD] at goal'
    exact goal'
  have st4 : tn 0 s4.heap := T.keep _ _ _ st3 fun b _ o e => by rw [hs4]; exact pushCells_keeps _ _ _ _ (Heap.get?_push_of_some _ e)
  let Y := X.blk s3 H3 sc ce fp
  have own_ok : ∀ {σ' : L2.St} {H' : Hp} {s' : Shared}, Inv Y [] σ' H' s' → (∀ b ∈ fp, H' b = none) → ∀ b ∈ fp, FpOk Y [] H' b := fun {σ' H' s'} I' hn b hb =>
    ⟨hn b hb, (I'.ok.exf b hb).1, I'.ok.exfs b hb, .inl hb, fun x c e => (I'.ok.exf b hb).2 x c e, fun p hp => absurd (show p ∈ ([] : List (Addr × Obj)) ++ [] from hp) (by simp)⟩
  have loop : codeAny (model X.prog X.w) X.A (.compLoop (dcE kx vx ta ia fa tb ib fb sc p) 0 (.ref it) (.ref D) ce) (compPost (model X.prog X.w) X.A X.xe none (EP X pins σ Q) (.ref D) s3.heap.objs.size) s4 := by
    refine dcL0 (hs1 ce) (fun n s' => ∃ i H', Inv Y [] (wipe σ (own.map (·.2))) H' s' ∧ tn i s'.heap ∧ (∀ b ∈ fp, H' b = none) ∧ W i n H') ?_ m0 ⟨0, H3, I4, st4, nfp, w0⟩
    rintro n s5 ⟨i, H5, I5, st5, n5, w5⟩
    rcases turn i n H5 w5 with ⟨stop, qq⟩ | ⟨go, Nx, hNx, step⟩
    · refine thnF (T.done Y rfl rfl rfl hc i [] s5 _ H5 (fun _ _ => False) I5 (own_ok I5 n5) st5 stop) fun r s6 ⟨hr, I6⟩ => ?_
      subst hr
      have I7 : Inv X pins σ H5 s6 := I3.call' (ch := fp) I6.os I6.base I6.hok I6.bare fun b hb => ⟨(f3 b hb).1.2.2.2.1, (f3 b hb).1.2.1, (f3 b hb).1.2.2.2.2.1, (f3 b hb).1.2.2.2.2.2⟩
      have nC : H5 s3.heap.objs.size = none := by rw [← cL]; exact I6.free
      obtain ⟨m, hn, _⟩ := I6.loc
      have hn' : s6.heap.Ns s3.heap.objs.size m := by rw [← cL]; exact hn
      obtain ⟨f0, f1, f2', f3', f4, f5⟩ := I3.fpOk (Nat.le_refl _) nC
      exact ⟨m, hn', fun h'' sb => ⟨.ref D, H5, I7.turned (t' := s6.toks) (fun b o hb e => (sb.2 b hb).trans e) f0 f1 f3' f4 f5, rfl, qq⟩⟩
    · refine thnF (T.item Y rfl rfl rfl hc i [] s5 _ H5 (fun _ _ => False) I5 (own_ok I5 n5) st5 go) fun r s6 ⟨u, hr, h6⟩ => ?_
      subst hr
      refine thnF h6 fun _ s7 ⟨x, H7, I7, r7, y7, st7, n7⟩ => ?_
      have I7' := I7.pinned (own_ok I7 n7) (T.obj _ _ st7)
      refine thnF (pg.run _ s7 _ H7 x u _ I7' r7 (step x H7 y7)) fun _ s8 ⟨σ8, H8, I8, hw8, q8⟩ => ?_
      refine thnF (pt.run _ s8 σ8 H8 _ I8 q8) fun b s9 ⟨H9, I9, q9⟩ => ?_
      have fin : ∀ {σ9 : L2.St} {s' : Shared} {H' : Hp}, Inv Y ([] ++ pinsAt fp s7.heap) σ9 H' s' → (wipe σ (own.map (·.2))).length = σ9.length → (∀ (j : Nat) v, (wipe σ (own.map (·.2)))[j]? = some (some v) → σ9[j]? = some (some v)) → Nx H' → ∃ m, m < n ∧ ∃ i H', Inv Y [] (wipe σ (own.map (·.2))) H' s' ∧ tn i s'.heap ∧ (∀ b ∈ fp, H' b = none) ∧ W i m H' := fun {σ9 s' H'} I' hl hkk nx => by
        obtain ⟨m', hm, w'⟩ := hNx H' nx
        have pin : ∀ b ∈ fp, ∀ o, s7.heap.get? b = some o → s'.heap.get? b = some o ∧ H' b = none := fun b hb o e => by
          have z := I'.pin (b, o) (List.mem_append_right _ (List.mem_append_right _ (mem_pinsAt hb e)))
          exact ⟨z.1, z.2.1⟩
        refine ⟨m', hm, i + 1, H', (I'.unpinned (pins := [])).weak hl hkk, T.keep _ _ _ st7 fun b hb o e => (pin b hb o e).1, fun b hb => ?_, w'⟩
        obtain ⟨o, e, _⟩ := T.obj _ _ st7 b hb
        exact (pin b hb o e).2
      have l8 : (wipe σ (own.map (·.2))).length = σ8.length := by rw [← hw8, wipe_length]
      have k8 : ∀ (j : Nat) v, (wipe σ (own.map (·.2)))[j]? = some (some v) → σ8[j]? = some (some v) := fun j v e => by rw [← hw8] at e; exact (wipe_some e).1
      have k9 : ∀ (j : Nat) v, (wipe σ (own.map (·.2)))[j]? = some (some v) → (wipe σ8 vs1)[j]? = some (some v) := fun j v e => by
        rw [← hw8] at e
        obtain ⟨e1, e2⟩ := wipe_some e
        rw [wipe_out fun z => e2 (hv1 j z)]
        exact e1
      cases b with
      | false =>
        simp only [Bool.false_eq_true, if_false] at q9 ⊢
        exact fin I9 l8 k8 q9
      | true =>
        simp only [if_true] at q9 ⊢
        refine thnF (pj.run _ s9 σ8 H9 _ I9 q9) fun xv s10 hx => thnF hx fun _ s11 ⟨it1, fp1, tn1, J1, H11, e1, I11, T1, st11, f11, V, ⟨m1, w1⟩, turn1⟩ => ?_
        subst e1
        have fok : ∀ {H' : Hp}, (∀ b ∈ fp1, H' b = none) → ∀ b ∈ fp1, FpOk Y ([] ++ pinsAt fp s7.heap) H' b := fun hn b hb => ⟨hn b hb, (f11 b hb).2⟩
        have loop1 : codeAny (model X.prog X.w) X.A (.compLoop (dcE kx vx ta ia fa tb ib fb sc p) 1 (.ref it1) (.ref D) ce) (fun r s' => match r with
              | .ok _ => ∃ m, m < n ∧ ∃ i H', Inv Y [] (wipe σ (own.map (·.2))) H' s' ∧ tn i s'.heap ∧ (∀ b ∈ fp, H' b = none) ∧ W i m H'
              | .error _ => False) s11 := by
          refine dcL1 (fun k s' => ∃ j H', Inv Y ([] ++ pinsAt fp s7.heap) (wipe σ8 vs1) H' s' ∧ tn1 j s'.heap ∧ (∀ b ∈ fp1, H' b = none) ∧ V j k H') ?_ m1 ⟨0, H11, I11.weak (wipe_length _ _) (fun j v e => (wipe_some e).1), st11, fun b hb => (f11 b hb).1, w1⟩
          rintro k s12 ⟨j, H12, I12, st12, n12, w12⟩
          rcases turn1 j k H12 w12 with ⟨stop1, nx1⟩ | ⟨go1, Ny, hNy, step1⟩
          · refine thnF (T1.done Y rfl rfl rfl hc j _ s12 (wipe σ8 vs1) H12 (fun _ _ => False) I12 (fok n12) st12 stop1) fun r s13 ⟨hr, I13⟩ => ?_
            subst hr
            exact fin I13 (l8.trans (wipe_length σ8 vs1).symm) k9 nx1
          · refine thnF (T1.item Y rfl rfl rfl hc j _ s12 (wipe σ8 vs1) H12 (fun _ _ => False) I12 (fok n12) st12 go1) fun r s13 ⟨u1, hr, h13⟩ => ?_
            subst hr
            refine thnF h13 fun _ s14 ⟨x1, H14, I14, r14, y14, st14, n14⟩ => ?_
            have I14' := I14.pinned (fok n14) (T1.obj _ _ st14)
            refine thnF (ph.run _ s14 (wipe σ8 vs1) H14 x1 u1 _ I14' r14 (step1 x1 H14 y14)) fun _ s15 ⟨σ15, H15, I15, hw15, q15⟩ => ?_
            refine thnF (pu.run _ s15 σ15 H15 _ I15 q15) fun b1 s16 ⟨H16, I16, q16⟩ => ?_
            have fin1 : ∀ {s' : Shared} {H' : Hp}, Inv Y (([] ++ pinsAt fp s7.heap) ++ pinsAt fp1 s14.heap) σ15 H' s' → Ny H' → ∃ m, m < k ∧ ∃ j H', Inv Y ([] ++ pinsAt fp s7.heap) (wipe σ8 vs1) H' s' ∧ tn1 j s'.heap ∧ (∀ b ∈ fp1, H' b = none) ∧ V j m H' := fun {s' H'} I' nx => by
              obtain ⟨m', hm, w'⟩ := hNy H' nx
              have pin : ∀ b ∈ fp1, ∀ o, s14.heap.get? b = some o → s'.heap.get? b = some o ∧ H' b = none := fun b hb o e => by
                have z := I'.pin (b, o) (List.mem_append_right _ (List.mem_append_right _ (mem_pinsAt hb e)))
                exact ⟨z.1, z.2.1⟩
              refine ⟨m', hm, j + 1, H', I'.unpinned.weak (by rw [← hw15, wipe_length]) (fun l v e => by rw [← hw15] at e; exact (wipe_some e).1), T1.keep _ _ _ st14 fun b hb o e => (pin b hb o e).1, fun b hb => ?_, w'⟩
              obtain ⟨o, e, _⟩ := T1.obj _ _ st14 b hb
              exact (pin b hb o e).2
            cases b1 with
            | false =>
              simp only [Bool.false_eq_true, if_false] at q16 ⊢
              exact fin1 I16 q16
            | true =>
              simp only [if_true] at q16 ⊢
              refine thnF (pk.run _ s16 σ15 H16 _ I16 q16) fun z s17 ⟨yk, H17, I17, r17, q17⟩ => ?_
              refine thnF (pv.run _ s17 σ15 H17 _ I17 q17) fun z2 s18 ⟨yv, H18, I18, r18, kvs, kk, kb, ek, hkb, hD18, hz18, nx⟩ => ?_
              subst ek
              obtain rfl : z = Value.ref kb := r17
              exact setT (X := Y) hu I18 hD18 hkb hz18 r18 fun s19 I19 => fin1 I19 nx
        exact dcS1 loop1 (T1.self X.A 0 _ _ _ st11 loop1)
  exact codeAny_compStart_dict loop (T.self X.A 0 _ _ _ st4 loop)
end Mw

set_option maxHeartbeats 4000000
/-! AwN: dict comprehensions of two sources. -/
namespace Aw
open PySem PySem.Spec PyProof.Rows L2 Mw
noncomputable def dcGo2 (ag : AG) (ft : AT) (ai1 : AI) (ag1 : AG) (ft1 : AT) (fk fv : AE) (vs1 : List Nat) (e0 : Ev) (n : Nat) (stay : Sto → Prop) (X : XQ) (Fin : Sto → Prop) : List W → Sto → Prop
  | [], σ => stay σ ∧ Fin σ
  | w :: r, σ => stay σ ∧ ag w e0 σ (fun e2 σ2 => ft e2 σ2 (fun b σ3 => if b = true then ai1 e2 σ3 (fun items1 stay1 σ4 => dcGo ag1 ft1 fk fv (wipeE e2 vs1) n stay1 X (fun σ5 => dcGo2 ag ft ai1 ag1 ft1 fk fv vs1 e0 n stay X Fin r σ5) items1 σ4) X
      else dcGo2 ag ft ai1 ag1 ft1 fk fv vs1 e0 n stay X Fin r σ3) X)
noncomputable def aDc2 (ai : AI) (ag : AG) (ft : AT) (ai1 : AI) (ag1 : AG) (ft1 : AT) (fk fv : AE) (vs vs1 : List Nat) : AE := fun e σ Q X => ai e σ (fun items stay σ1 =>
  dcGo2 ag ft ai1 ag1 ft1 fk fv vs1 (wipeE e vs) σ1.length stay X (fun σf => Q (.ref σ1.length) σf) items (σ1 ++ [.dct true []])) X
section
variable {Z : Zx} {E : L2.St → XK} {ta tb : TE} {fa fb : AE} {wi wi1 : TI} {ai ai1 : AI} {g g1 : TG} {ag ag1 : AG} {tt tt1 : TT} {ft ft1 : AT} {vs vs1 : List Nat}
instance sim_dc2 {F : XK} [ii : SimI Z (fun _ => F) wi ai] [ig : SimG Z g ag] [it : SimT Z (fun _ => F) tt ft] [ii1 : SimI Z (fun _ => F) wi1 ai1] [ig1 : SimG Z g1 ag1] [it1 : SimT Z (fun _ => F) tt1 ft1] [ia : SimE Z (fun _ => F) ta fa] [ib : SimE Z (fun _ => F) tb fb]
    [tin : TgtIn g vs] [tm : TgMono g] [tin1 : TgtIn g1 vs1] [tm1 : TgMono g1] : SimE Z (fun _ => F) (tDc2 wi g tt wi1 g1 tt1 ta tb vs vs1) (aDc2 ai ag ft ai1 ag1 ft1 fa fb vs vs1) := ⟨fun {ρ σ H s e Qa Ea Q} r er h kq kx =>
  ii.sim r er h (fun ρ1 σ1 H1 J items stay g1 r1 itr h1 D nD => by
    have gc : Go Z.T ρ1 H1 (ρ1 ++ [D]) (upd H1 D (.dT [])) := Go.cell nD
    have rc : Rel Z.K Z.T (ρ1 ++ [D]) (σ1 ++ [.dct true []]) (upd H1 D (.dT [])) := r1.cell' nD ⟨[], upd_same, .nil⟩
    have hD : (ρ1 ++ [D])[σ1.length]? = some D := by rw [r1.len, List.getElem?_append_right (Nat.le_refl _), Nat.sub_self]; rfl
    generalize hG : dcGo2 ag ft ai1 ag1 ft1 fa fb vs1 (wipeE e vs) σ1.length stay Ea (fun σf => Qa (.ref σ1.length) σf) = Gf at h1
    refine ⟨fun i m H' => m = items.length - i ∧ i ≤ items.length ∧ ∃ ρ' σ', Go Z.T (ρ1 ++ [D]) (upd H1 D (.dT [])) ρ' H' ∧ Rel Z.K Z.T ρ' σ' H' ∧ Gf (items.drop i) σ', ⟨_, rfl, Nat.zero_le _, _, _, .refl, rc, h1⟩, ?_⟩
    rintro i m H' ⟨rfl, hi, ρ', σ', g', r', h'⟩
    have g1' : Go Z.T ρ1 H1 ρ' H' := gc.trans g'
    by_cases hlt : i < items.length
    · rw [List.drop_eq_getElem_cons hlt, ← hG] at h'
      obtain ⟨st, h'⟩ := h'
      rw [hG] at h'
      obtain ⟨a1, a2⟩ := (itr _ _ _ g1' r' st).1 i items[i] (List.getElem?_eq_getElem hlt)
      refine .inr ⟨a1, fun H2 => i + 1 ≤ items.length ∧ ∃ ρ' σ', Go Z.T (ρ1 ++ [D]) (upd H1 D (.dT [])) ρ' H2 ∧ Rel Z.K Z.T ρ' σ' H2 ∧ Gf (items.drop (i + 1)) σ', fun H2 n => ⟨_, by omega, rfl, n.1, n.2⟩, fun x H2 y => ?_⟩
      obtain ⟨g2, r2, v2⟩ := a2 x H2 y
      have g12 : Go Z.T ρ H ρ' H2 := (g1.trans g1').trans g2
      have er2 : ER Z.K ρ' H2 (wipe s vs) (wipeE e vs) := er_wipe (g12.er r er) vs
      refine tm.mono (fun s3 H3 z => ⟨wipe_agree z.1, z.2⟩) (tin.out (ig.sim r2 er2 v2 h' fun ρ3 σ3 H3 s3 e3 g3 r3 er3 h3 => ?_))
      have g13 := g12.trans g3
      refine it.sim r3 er3 h3 (fun ρ4 σ4 H4 b g4 r4 h4 => ?_) (kx.go g13)
      have g14 := g13.trans g4
      have gD4 : Go Z.T (ρ1 ++ [D]) (upd H1 D (.dT [])) ρ4 H4 := ((g'.trans g2).trans g3).trans g4
      cases b with
      | false => exact ⟨hlt, ρ4, σ4, gD4, r4, h4⟩
      | true =>
        refine ii1.sim r4 (g4.er r3 er3) h4 (fun ρ5 σ5 H5 J1 items1 stay1 g5 r5 itr1 h5 => ?_) (kx.go g14)
        have er5 : ER Z.K ρ5 H5 s3 e3 := (g4.trans g5).er r3 er3
        have gD5 := gD4.trans g5
        have g15 := g14.trans g5
        generalize hK : dcGo ag1 ft1 fa fb (wipeE e3 vs1) σ1.length stay1 Ea (fun σ5 => Gf (items.drop (i + 1)) σ5) = Gk at h5
        refine ⟨fun j k H' => k = items1.length - j ∧ j ≤ items1.length ∧ ∃ ρ' σ', Go Z.T ρ5 H5 ρ' H' ∧ Rel Z.K Z.T ρ' σ' H' ∧ Gk (items1.drop j) σ', ⟨_, rfl, Nat.zero_le _, _, _, .refl, r5, h5⟩, ?_⟩
        rintro j k H6 ⟨rfl, hj, ρ6, σ6, g6, r6, h6⟩
        by_cases hjt : j < items1.length
        · rw [List.drop_eq_getElem_cons hjt, ← hK] at h6
          obtain ⟨st1, h6⟩ := h6
          rw [hK] at h6
          obtain ⟨b1, b2⟩ := (itr1 _ _ _ g6 r6 st1).1 j items1[j] (List.getElem?_eq_getElem hjt)
          refine .inr ⟨b1, fun H2 => j + 1 ≤ items1.length ∧ ∃ ρ' σ', Go Z.T ρ5 H5 ρ' H2 ∧ Rel Z.K Z.T ρ' σ' H2 ∧ Gk (items1.drop (j + 1)) σ', fun H2 n => ⟨_, by omega, rfl, n.1, n.2⟩, fun x H7 y => ?_⟩
          obtain ⟨g7, r7, v7⟩ := b2 x H7 y
          have g57 := g6.trans g7
          have er7 : ER Z.K ρ6 H7 (wipe s3 vs1) (wipeE e3 vs1) := er_wipe (g57.er r5 er5) vs1
          refine tm1.mono (fun s3 H3 z => ⟨wipe_agree z.1, z.2⟩) (tin1.out (ig1.sim r7 er7 v7 h6 fun ρ8 σ8 H8 s8 e8 g8 r8 er8 h8 => ?_))
          have g58 := g57.trans g8
          refine it1.sim r8 er8 h8 (fun ρ9 σ9 H9 b g9 r9 h9 => ?_) (kx.go (g15.trans g58))
          have g59 := g58.trans g9
          cases b with
          | false => exact ⟨hjt, ρ9, σ9, g59, r9, h9⟩
          | true =>
            refine ia.sim r9 (g9.er r8 er8) h9 (fun ρA σA HA v w gA rA vA hA => ?_) (kx.go (g15.trans g59))
            have g5A := g59.trans gA
            refine ib.sim rA ((g9.trans gA).er r8 er8) hA (fun ρB σB HB v' w' gB rB vB hB => ?_) (kx.go (g15.trans g5A))
            obtain ⟨kd, acc, rfl, hk, hcc, hl, hB⟩ := hB
            have g5B := g5A.trans gB
            have hDB := (gD5.trans g5B).at_ hD
            obtain ⟨hkv, e1, e2⟩ := rB.cell _ D _ hDB hcc
            obtain ⟨ks, rfl⟩ := isKT_of hk
            obtain ⟨bk, rfl, hb⟩ := rp_keyT (gB.rp rA vA)
            have gp : Go Z.T ρB HB ρB (upd HB D (.dT (putK hkv ks v'))) := Go.put (List.mem_of_getElem? hDB) e1
            exact ⟨hkv, ks, bk, rfl, hb, e1, by rw [prs_len e2]; exact hl, hjt, ρB, _, g5B.trans gp, rB.put (c := .dct true (dput acc (kT ks) w')) hDB ⟨_, upd_same, gp.prs rB (prs_put (fun _ _ => kT_inj) ks vB e2)⟩, hB⟩
        · have ej : j = items1.length := by omega
          subst ej
          rw [List.drop_length, ← hK] at h6
          obtain ⟨st1, h6⟩ := h6
          exact .inl ⟨(itr1 _ _ _ g6 r6 st1).2, hlt, ρ6, σ6, gD5.trans g6, r6, h6⟩
    · have ei : i = items.length := by omega
      subst ei
      rw [List.drop_length, ← hG] at h'
      obtain ⟨st, h'⟩ := h'
      exact .inl ⟨(itr _ _ _ g1' r' st).2, kq.r (g1.trans g1') r' (g'.at_ hD) h'⟩) kx⟩
theorem r_dc2 {fk fv : AE} {e : Ev} {σ : Sto} {Q : QK} {X : XQ} (h : ai e σ (fun items stay σ1 => dcGo2 ag ft ai1 ag1 ft1 fk fv vs1 (wipeE e vs) σ1.length stay X (fun σf => Q (.ref σ1.length) σf) items (σ1 ++ [.dct true []])) X) : aDc2 ai ag ft ai1 ag1 ft1 fk fv vs vs1 e σ Q X := h
end
theorem pe_dc2A {X : Cx} {kx vx ta ia tb ib : Expr} {fa fb : List Expr} {sc : Scope} {p : Pos} {own : List (Str × Nat)} {vs vs1 : List Nat} {wi wi1 : TI} {g g1 : TG} {tt tt1 : TT} {tk tv : TE} (hvv : own.map (·.2) = vs) (hu : X.A.units + 1 < cLine) (hc : X.calm = true) (hN : X.N.Nodup) (hi : PI X ta ia wi) (ok : BlkOk X.N X.env.scope sc own)
    (hv1 : ∀ i ∈ vs1, i ∈ vs) (hg : Blk X sc fun Y => PG Y ta g) (ht : Blk X sc fun Y => PTs Y fa tt) (hi1 : Blk X sc fun Y => PI Y tb ib wi1) (hg1 : Blk X sc fun Y => PG Y tb g1) (ht1 : Blk X sc fun Y => PTs Y fb tt1) (hk : Blk X sc fun Y => PE Y kx tk) (hv : Blk X sc fun Y => PE Y vx tv)
    (hs : ∀ x, foldedSetIterable ia X.env x = pure x := by intro _; rfl) (hs1 : ∀ env x, foldedSetIterable ib env x = pure x := by intro _ _; rfl) :
    PE X (.DictComp kx vx [⟨ta, ia, fa, 0⟩, ⟨tb, ib, fb, 0⟩] sc p) (tDc2 wi g tt wi1 g1 tt1 tk tv vs vs1) := by
  subst hvv
  exact pe_dc2 hu hc hN hi ok hv1 hg ht hi1 hg1 ht1 hk hv hs hs1
/-- the turns, by what holds ahead of turn j -/
theorem dc2_run {ag : AG} {ft : AT} {ai1 : AI} {ag1 : AG} {ft1 : AT} {fk fv : AE} {vs1 : List Nat} {e0 : Ev} {n : Nat} {X : XQ} {Fin : Sto → Prop} {stay : Sto → Prop} {items : List W} (I : Nat → Sto → Prop) {σ : Sto} (h0 : I 0 σ)
    (step : ∀ j w σ (Rest : Sto → Prop), items[j]? = some w → I j σ → (∀ σ', I (j + 1) σ' → Rest σ') → stay σ ∧ ag w e0 σ (fun e2 σ2 => ft e2 σ2 (fun b σ3 => if b = true then ai1 e2 σ3 (fun items1 stay1 σ4 => dcGo ag1 ft1 fk fv (wipeE e2 vs1) n stay1 X Rest items1 σ4) X else Rest σ3) X))
    (fin : ∀ σ, I items.length σ → stay σ ∧ Fin σ) : dcGo2 ag ft ai1 ag1 ft1 fk fv vs1 e0 n stay X Fin items σ := by
  have key : ∀ m j σ, m + j = items.length → I j σ → dcGo2 ag ft ai1 ag1 ft1 fk fv vs1 e0 n stay X Fin (items.drop j) σ := by
    intro m
    induction m with
    | zero =>
      intro j σ hm hi
      have : j = items.length := by omega
      subst this
      rw [List.drop_length]
      exact fin σ hi
    | succ m ih =>
      intro j σ hm hi
      have hj : j < items.length := by omega
      rw [List.drop_eq_getElem_cons hj]
      exact step j items[j] σ _ (List.getElem?_eq_getElem hj) hi fun σ' h => ih (j + 1) σ' (by omega) h
  exact key items.length 0 σ (by omega) h0
/-- a comprehension's turns over a dict that has something already -/
theorem dc_on {ag : AG} {ft : AT} {fk fv : AE} {e0 : Ev} {n : Nat} {X : XQ} {Fin : Sto → Prop} {stay : Sto → Prop} {items : List W} (I : Nat → Sto → Prop) {σ : Sto} (h0 : I 0 σ)
    (step : ∀ j w σ (Rest : Sto → Prop), items[j]? = some w → I j σ → (∀ σ', I (j + 1) σ' → Rest σ') → stay σ ∧ ag w e0 σ (fun e2 σ2 => ft e2 σ2 (fun b σ3 => if b = true then fk e2 σ3 (fun y σ4 => fv e2 σ4 (fun z σ5 => ∃ kd acc5, y = .d kd ∧ isKT kd = true ∧ σ5[n]? = some (.dct true acc5) ∧ acc5.length < sizeLine ∧ Rest (σ5.set n (.dct true (dput acc5 kd z)))) X) X else Rest σ3) X))
    (fin : ∀ σ, I items.length σ → stay σ ∧ Fin σ) : dcGo ag ft fk fv e0 n stay X Fin items σ := by
  have key : ∀ m j σ, m + j = items.length → I j σ → dcGo ag ft fk fv e0 n stay X Fin (items.drop j) σ := by
    intro m
    induction m with
    | zero =>
      intro j σ hm hi
      have : j = items.length := by omega
      subst this
      rw [List.drop_length]
      exact fin σ hi
    | succ m ih =>
      intro j σ hm hi
      have hj : j < items.length := by omega
      rw [List.drop_eq_getElem_cons hj]
      exact step j items[j] σ _ (List.getElem?_eq_getElem hj) hi fun σ' h => ih (j + 1) σ' (by omega) h
  exact key items.length 0 σ (by omega) h0
end Aw

set_option maxHeartbeats 4000000
/-! AwO: comprehensions that only look. -/
namespace Aw
open PySem PySem.Spec PyProof.Rows L2 Mw Lw
theorem small' {n : Nat} (h : n ≤ 100000) : n < sizeLine := by rw [sizeLine_eq]; omega
section
variable {α : Type} {ag : AG} {ft : AT} {fa fk fv : AE} [mg : MoG ag] [mt : MoT ft] [me : MoE fa] {e0 e : Ev} {X : XQ} {Q : QK} {σ : Sto} {stay : Sto → Prop}
/-- [.. for x in L if ..] -/
theorem lc_fm (L : List α) (g : α → W) (f : α → Option PyData) (hst : ∀ j, stay (σ ++ j)) (hl : L.length ≤ 100000)
    (step : ∀ x ∈ L, ∀ (j : Sto) (Y : PyData → Prop) (N : Prop), (∀ d, f x = some d → Y d) → (f x = none → N) → ag (g x) e0 (σ ++ j) (fun e2 σ2 => ft e2 σ2 (fun b σ3 => if b = true then fa e2 σ3 (fun y σ4 => ∃ d, y = .d d ∧ σ4 = σ ++ j ∧ Y d) X else σ3 = σ ++ j ∧ N) X))
    (q : Q (.d (.list (L.filterMap f))) σ) : lcFz ag ft fa e0 X Q (L.map g) stay σ := by
  refine lc_fz (fun i acc s => s = σ ∧ acc = (L.take i).filterMap f) ⟨rfl, by simp⟩ (fun i acc s h => by rw [h.1]; exact ⟨rfl, fun _ _ h => .inl h⟩) (fun i w acc s Rest hw h k => ?_) fun acc s h => ?_
  · obtain ⟨rfl, rfl⟩ := h
    rw [List.getElem?_map] at hw
    obtain ⟨x, hx, rfl⟩ := Option.map_eq_some_iff.mp hw
    refine ⟨hst _, ?_⟩
    have hlen : ((L.take i).filterMap f).length < sizeLine := by
      have h1 := List.length_filterMap_le f (L.take i)
      rw [List.length_take] at h1
      exact small' (by omega)
    refine mg.mo (fun e2 s2 h => mt.mo (fun b s3 h => ?_) h) (step x (List.mem_of_getElem? hx) [.lst (((L.take i).filterMap f).map .d)] (fun d => f x = some d) (f x = none) (fun _ h => h) fun h => h)
    cases b with
    | true =>
      rw [if_pos rfl] at h ⊢
      refine me.mo (fun y s4 h => ?_) h
      obtain ⟨d, rfl, rfl, hd⟩ := h
      refine tg_app rfl hlen (k _ _ ⟨rfl, ?_⟩)
      rw [take_snoc hx, List.filterMap_append]
      simp [hd]
    | false =>
      rw [if_neg (by decide)] at h ⊢
      obtain ⟨rfl, hn⟩ := h
      refine k _ _ ⟨rfl, ?_⟩
      rw [take_snoc hx, List.filterMap_append]
      simp [hn]
  obtain ⟨rfl, rfl⟩ := h
  rw [List.length_map, List.take_length]
  exact ⟨hst _, q⟩
theorem r_tupG {ai : AI} {vs : List Nat} (h : ai e σ (fun items stay σ1 => gnGo ag ft fa (wipeE e vs) stay X (fun (a : List PyData) w N _ => ∃ d, w = .d d ∧ a.length < sizeLine ∧ N (a ++ [d])) (fun a σf => Q (.d (.tuple a)) σf) items [] σ1) X) : aTupG ai ag ft fa vs e σ Q X := h
/-- tuple(.. for x in L if ..) -/
theorem tg_fm (L : List α) (g : α → W) (f : α → Option PyData) (hst : stay σ) (hl : L.length ≤ 100000)
    (step : ∀ x ∈ L, ∀ (Y : PyData → Prop) (N : Prop), (∀ d, f x = some d → Y d) → (f x = none → N) → ag (g x) e0 σ (fun e2 σ2 => ft e2 σ2 (fun b σ3 => if b = true then fa e2 σ3 (fun y σ4 => ∃ d, y = .d d ∧ σ4 = σ ∧ Y d) X else σ3 = σ ∧ N) X))
    (q : Q (.d (.tuple (L.filterMap f))) σ) : gnGo ag ft fa e0 stay X (fun (a : List PyData) w N _ => ∃ d, w = .d d ∧ a.length < sizeLine ∧ N (a ++ [d])) (fun a σf => Q (.d (.tuple a)) σf) (L.map g) [] σ := by
  refine gn_run (fun i a s => s = σ ∧ a = (L.take i).filterMap f) ⟨rfl, by simp⟩ (fun i w a s Rest hw h k => ?_) fun a s h => ?_
  · obtain ⟨rfl, rfl⟩ := h
    rw [List.getElem?_map] at hw
    obtain ⟨x, hx, rfl⟩ := Option.map_eq_some_iff.mp hw
    refine ⟨hst, ?_⟩
    have hlen : ((L.take i).filterMap f).length < sizeLine := by
      have h1 := List.length_filterMap_le f (L.take i)
      rw [List.length_take] at h1
      exact small' (by omega)
    refine mg.mo (fun e2 s2 h => mt.mo (fun b s3 h => ?_) h) (step x (List.mem_of_getElem? hx) (fun d => f x = some d) (f x = none) (fun _ h => h) fun h => h)
    cases b with
    | true =>
      rw [if_pos rfl] at h ⊢
      refine me.mo (fun y s4 h => ?_) h
      obtain ⟨d, rfl, rfl, hd⟩ := h
      refine ⟨d, rfl, hlen, k _ _ ⟨rfl, ?_⟩⟩
      rw [take_snoc hx, List.filterMap_append]
      simp [hd]
    | false =>
      rw [if_neg (by decide)] at h ⊢
      obtain ⟨rfl, hn⟩ := h
      refine k _ _ ⟨rfl, ?_⟩
      rw [take_snoc hx, List.filterMap_append]
      simp [hn]
  obtain ⟨rfl, rfl⟩ := h
  rw [List.length_map, List.take_length]
  exact ⟨hst, q⟩
/-- all(.. for x in L), any(.. for x in L) -/
theorem ag_fm (go : Bool) (L : List α) (g : α → W) (f : α → Bool) (hst : stay σ)
    (step : ∀ x ∈ L, ∀ (Y : Bool → Prop), Y (f x) → ag (g x) e0 σ (fun e2 σ2 => ft e2 σ2 (fun b σ3 => b = true ∧ fa e2 σ3 (fun y σ4 => ∃ d, y = .d (.bool d) ∧ σ4 = σ ∧ Y d) X) X))
    (q : Q (.d (.bool (if go then L.all f else L.any f))) σ) : gnGo ag ft fa e0 stay X (anyS go Q) (fun _ σf => Q (.d (.bool go)) σf) (L.map g) () σ := by
  refine gn_run (fun i a s => s = σ ∧ ∀ x ∈ L.take i, f x = go) ⟨rfl, fun x hx => by simp at hx⟩ (fun i w a s Rest hw h k => ?_) fun a s h => ?_
  · obtain ⟨rfl, ha⟩ := h
    rw [List.getElem?_map] at hw
    obtain ⟨x, hx, rfl⟩ := Option.map_eq_some_iff.mp hw
    refine ⟨hst, ?_⟩
    refine mg.mo (fun e2 s2 h => mt.mo (fun b s3 h => ?_) h) (step x (List.mem_of_getElem? hx) (fun d => f x = d) rfl)
    obtain ⟨rfl, h⟩ := h
    rw [if_pos rfl]
    refine me.mo (fun y s4 h => ?_) h
    obtain ⟨d, rfl, rfl, hd⟩ := h
    refine ⟨d, rfl, ?_⟩
    by_cases hg : d = go
    · rw [if_pos hg]
      refine k _ _ ⟨rfl, fun y hy => ?_⟩
      rw [take_snoc hx] at hy
      rcases List.mem_append.mp hy with h | h
      · exact ha y h
      · rw [List.mem_singleton.mp h, hd, hg]
    · rw [if_neg hg]
      have e : (if go then L.all f else L.any f) = d := by
        cases go with
        | true =>
          have hdf : d = false := by cases d <;> simp_all
          rw [if_pos rfl, hdf]
          refine Bool.eq_false_iff.mpr fun z => ?_
          have := List.all_eq_true.mp z x (List.mem_of_getElem? hx)
          rw [hd, hdf] at this
          cases this
        | false =>
          have hdt : d = true := by cases d <;> simp_all
          rw [if_neg (by decide), hdt]
          exact List.any_eq_true.mpr ⟨x, List.mem_of_getElem? hx, by rw [hd, hdt]⟩
      rw [← e]
      exact q
  · obtain ⟨rfl, ha⟩ := h
    rw [List.length_map, List.take_length] at ha
    refine ⟨hst, ?_⟩
    have e : (if go then L.all f else L.any f) = go := by
      cases go with
      | true => rw [if_pos rfl]; exact List.all_eq_true.mpr ha
      | false =>
        rw [if_neg (by decide)]
        exact List.any_eq_false.mpr fun x hx => by rw [ha x hx]; decide
    rw [e] at q
    exact q
end
/-- {name: True for ..} -/
theorem dc_names {ag : AG} {ft : AT} {fk fv : AE} [mg : MoG ag] [mt : MoT ft] [mk : MoE fk] [mv : MoE fv] {e0 : Ev} {X : XQ} {n : Nat} {σ : Sto} {stay : Sto → Prop} {Fin : Sto → Prop} (L : List Nm) (hst : ∀ j, stay (σ ++ j)) (hn : n = σ.length) (g0 : List Nm) (hl : g0.length + L.length ≤ 100000)
    (step : ∀ x ∈ L, ∀ (j : Sto), ag (.d (nmD x)) e0 (σ ++ j) (fun e2 σ2 => ft e2 σ2 (fun b σ3 => b = true ∧ fk e2 σ3 (fun y σ4 => y = .d (nmD x) ∧ fv e2 σ4 (fun z σ5 => z = .d (.bool true) ∧ σ5 = σ ++ j) X) X) X))
    (q : Fin (σ ++ [.dct true (kvY (L.foldl ins g0))])) : dcGo ag ft fk fv e0 n stay X Fin (nmW L) (σ ++ [.dct true (kvY g0)]) := by
  subst hn
  refine dc_on (fun i s => s = σ ++ [.dct true (kvY ((L.take i).foldl ins g0))]) (by simp) (fun i w s Rest hw h k => ?_) fun s h => ?_
  · subst h
    rw [List.getElem?_map] at hw
    obtain ⟨x, hx, rfl⟩ := Option.map_eq_some_iff.mp hw
    refine ⟨hst _, ?_⟩
    refine mg.mo (fun e2 s2 h => mt.mo (fun b s3 h => ?_) h) (step x (List.mem_of_getElem? hx) [.dct true (kvY ((L.take i).foldl ins g0))])
    obtain ⟨rfl, h⟩ := h
    rw [if_pos rfl]
    refine mk.mo (fun y s4 h => ?_) h
    obtain ⟨rfl, h⟩ := h
    refine mv.mo (fun z s5 h => ?_) h
    obtain ⟨rfl, rfl⟩ := h
    have hlen : ∀ (l g : List Nm), (l.foldl ins g).length ≤ g.length + l.length := fun l => by
      induction l with
      | nil => intro g; exact Nat.le_refl _
      | cons a l ih =>
        intro g
        have h1 := ih (ins g a)
        have h2 := ins_len g a
        rw [List.foldl_cons, List.length_cons]
        omega
    have h3 := hlen (L.take i) g0
    rw [List.length_take] at h3
    refine ⟨nmD x, _, rfl, rfl, px_j0, small' (by rw [List.length_map]; omega), ?_⟩
    rw [px_s0, put_Y]
    refine k _ ?_
    rw [take_snoc hx, List.foldl_append]
    rfl
  · subst h
    rw [List.length_map, List.take_length]
    exact ⟨hst _, q⟩
end Aw

namespace Mw
open PySem PySem.Spec PyProof.Rows L2
/-! ### enumerate(v) of lists and tuples -/
set_option maxHeartbeats 4000000 in
theorem enumN {v : Value} {o : Obj} {Hh : Heap → Prop} (B : Begins v o Hh) : Meets (Builtin.«enumerate.__new__» ⟨[.type "enumerate", v], []⟩) (fun _ R s => Hh s.heap ∧
    R (.ok (.ret (.ref (s.heap.push o).objs.size))) { s with heap := (s.heap.push o).push { cls := .type "enumerate", data := .fields #[.none, .bool false, .ref s.heap.objs.size, rawInt 0, .none, .none] } }) :=
  .of_wp fun prog w A R s h => by
    obtain ⟨hp, g, d, tk, os⟩ := s
    obtain ⟨h1, h⟩ := h
    have hsub := sub_enumerate
    have q1 : ∀ {A' : Around} {E : Value → Shared → Prop} {Q : Value → Shared → Prop}, Q (.ref hp.objs.size) ⟨hp.push o, g, d, tk, os⟩ → wpAny (model prog w) A' (pyIter v) Q E ⟨hp, g, d, tk, os⟩ := fun q => B.iter prog w _ _ ⟨hp, g, d, tk, os⟩ _ h1 q
    wp_walk using q1
    refine wpAny_stack_any fun st => wpAny_pure ?_
    split
    · rename_i c _ _ _ _ _
      cases (c == Value.type "enumerate") <;> (wp_walk using q1; exact ⟨_, rfl, h⟩)
    · wp_walk using q1
      exact ⟨_, rfl, h⟩
theorem enumB {P : Program} {w : World} {A : Around} {E : Value → Shared → Prop} {s : Shared} {v : Value} {o : Obj} {Hh : Heap → Prop} {Q : Value → Shared → Prop} (B : Begins v o Hh) (h1 : Hh s.heap)
    (h : ∀ h', IsEnum h' (s.heap.objs.size + 1) s.heap.objs.size 0 .none → h'.get? s.heap.objs.size = some o → (∀ b o, s.heap.get? b = some o → h'.get? b = some o) → Q (.ref (s.heap.objs.size + 1)) { s with heap := h' }) :
    wpAny (model P w) A (call (.type "enumerate") [v]) Q E s := by
  refine callType_new F.called_enumerate (by decide) (F.typeCall_enumerate_1 _) (F.newCall_enumerate_1 _) (fun obj => F.args_object_init_2 obj _) F.entry_enumerate_new (enumN B) ⟨h1, ?_⟩
  have hz : (s.heap.push o).objs.size = s.heap.objs.size + 1 := Heap.size_push ..
  show _ ∧ _
  rw [hz]
  generalize hob : ({ cls := .type "enumerate", data := .fields #[.none, .bool false, .ref s.heap.objs.size, rawInt 0, .none, .none] } : Obj) = ob
  have he : ((s.heap.push o).push ob).get? (s.heap.objs.size + 1) = some ob := by rw [← hz]; exact Heap.get?_push_size _ (by rw [← hob]; rfl)
  have he' : IsEnum ((s.heap.push o).push ob) (s.heap.objs.size + 1) s.heap.objs.size 0 .none := by rw [← hob] at he ⊢; exact he
  refine ⟨⟨_, he', rfl⟩, h _ he' (Heap.get?_push_of_some _ (Heap.get?_push_size _ B.free)) fun b o x => Heap.get?_push_of_some _ (Heap.get?_push_of_some _ x)⟩
/-- the tuple at a, each item in a new pair -/
def IteT (K : PySem.W.Frag) (a : Addr) : It :=
  ⟨fun i H => ∃ (xs : List V) (x : V), SqT K H a xs ∧ xs[i]? = some x, fun i H v H' => ∃ T x, v = .ref T ∧ H T = none ∧ H' = upd H T (.tup [.int (i : Nat), x]) ∧ ∀ xs, SqT K H a xs → xs[i]? = some x, fun i H => ∃ xs : List V, SqT K H a xs ∧ xs.length ≤ i⟩
theorem apartT {h : Heap} {it a : Addr} {i : Nat} {xs : Array Value} (h1 : h.IsTupleIter it a i) (h2 : h.IsTuple a xs) : a ≠ it := fun z => by
  obtain ⟨o, e1, c1, _⟩ := h1
  obtain ⟨o', e2, c2, _⟩ := h2
  rw [z, e1] at e2
  cases e2
  rw [c1] at c2
  exact absurd c2 (by decide)
theorem apartE {h : Heap} {e it a : Addr} {i : Int} {old : Value} {xs : Array Value} (h1 : IsEnum h e it i old) (h2 : h.IsTuple a xs) : e ≠ a := fun z => by
  obtain ⟨o', e2, c2, _⟩ := h2
  have h1' : h.get? e = some _ := h1
  rw [z, e2] at h1'
  cases h1'
  exact absurd (show Value.type "enumerate" = Value.type "tuple" from c2) (by decide)
theorem turn_enumT {P : Program} {w : World} {K : PySem.W.Frag} {elts : List Expr} {kk : Nat} {tpos : Pos} (a e it : Addr) :
    Turn P w K (.Tuple elts kk tpos) (IteT K a) [e, it] e (fun i h => (∃ old, IsEnum h e it ((i : Nat) : Int) old) ∧ h.IsTupleIter it a i ∧ e ≠ it) where
  mem := by simp
  obj := fun i h st b hb => by
    obtain ⟨⟨old, he⟩, ⟨o, ho, hc, hd⟩, _⟩ := st
    rcases (show b = e ∨ b = it by simpa using hb) with rfl | rfl
    · exact ⟨_, he, fun v q => nomatch q⟩
    · exact ⟨o, ho, fun v q => by rw [hd] at q; cases q⟩
  keep := fun i h h' ⟨⟨old, he⟩, hi, hne⟩ k => ⟨⟨old, k e (by simp) _ he⟩, hi.at fun o q => k it (by simp) o q, hne⟩
  item := by
    intro X hP hw hK hc i pins s σ H E I hf st hg
    subst hP hw hK
    obtain ⟨⟨old, he⟩, hit, hne⟩ := st
    obtain ⟨xs, x, hq, hx⟩ := hg
    obtain ⟨its, rv, p, hz⟩ := I.tuple hq
    obtain ⟨u, hu, ru⟩ := rv.get hx
    have pT : s.heap.IsTuple a its.toArray := p
    have hel : e < s.heap.objs.size := Heap.lt_size he
    have hil : it < s.heap.objs.size := let ⟨_, q, _⟩ := hit; Heap.lt_size q
    have D := Draws.tuple (prog := X.prog) (w := X.w) (A := X.A.in1) (I.ok.hd hc) it a (apartT hit pT) its.toArray
    refine wpAny_pyNext_enum_itemD D he ⟨hit, pT⟩ (by simpa using (List.getElem?_eq_some_iff.mp hu).1) hne (by simp [hne, apartE he pT]) fun x' h' tk hP ho hst hT hsz hk => ?_
    have ex : x' = u := by
      have hu' : its.toArray[i]? = some u := by simpa using hu
      have hP' : its.toArray[i]? = some x' := hP
      rw [hu'] at hP'
      exact (Option.some.inj hP').symm
    subst ex
    refine ⟨_, rfl, wpAny_letOwnedTupleGo_enum (s := { s with heap := h', toks := tk + 1 }) ho fun h'' he' sb => ?_⟩
    have hT2 := (sb.2 _ (Nat.ne_of_gt hel)).trans hT
    have new : ObjOk X.prog X.w (upd H s.heap.objs.size (.tup [.int (i : Nat), x])) h'' s.heap.objs.size (.tup [.int (i : Nat), x]) :=
      ⟨(by show 2 ≤ sizeLine; decide), [.int i tk, x'], .cons ⟨_, rfl⟩ (.cons ru .nil), ⟨_, hT2, rfl, _, rfl⟩⟩
    have I1 : Inv X pins σ (upd H s.heap.objs.size (.tup [.int (i : Nat), x])) { s with heap := h'', toks := tk + 1 } :=
      I.turnedNew (ch := [e, it]) (fun b ob hb q => (sb.2 b (fun z => hb (by simp [z]))).trans (hk b ob (fun z => hb (by simp [z])) (fun z => hb (by simp [z])) q)) hf (Nat.le_refl _) new
    refine ⟨.ref s.heap.objs.size, _, I1, rfl, ⟨_, x, rfl, I.hok.fresh (Nat.le_refl _), rfl, fun ys hy => by rw [I.tuple_inj hy hq]; exact hx⟩, ⟨⟨x', ?_⟩, hst.1.at fun o q => (sb.2 it (Ne.symm hne)).trans q, hne⟩, fun b hb => ?_⟩
    · rw [show ((i + 1 : Nat) : Int) = (i : Int) + 1 by omega]; exact he'
    · have hb' : b < s.heap.objs.size := by
        rcases (show b = e ∨ b = it by simpa using hb) with rfl | rfl
        · exact hel
        · exact hil
      rw [upd_ne (Nat.ne_of_lt hb')]
      exact (hf b hb).1
  done := by
    intro X hP hw hK hc i pins s σ H E I hf st hg
    subst hP hw hK
    obtain ⟨⟨old, he⟩, hit, hne⟩ := st
    obtain ⟨xs, hq, hx⟩ := hg
    obtain ⟨its, rv, p, hz⟩ := I.tuple hq
    have pT : s.heap.IsTuple a its.toArray := p
    obtain ⟨f0, f1, f2, f3, f4, f5⟩ := hf it (by simp)
    have hl := rv.length
    have D := Draws.tuple (prog := X.prog) (w := X.w) (A := X.A.in1) (I.ok.hd hc) it a (apartT hit pT) its.toArray
    -- behind the end
    have D' : Draws X.prog X.w X.A.in1 it [it, a] i (fun _ _ => False) (fun j h => j = i ∧ h.IsTupleIter it a i ∧ h.IsTuple a its.toArray) :=
      { live := fun _ _ st => let ⟨o, ho, _⟩ := st.2.1; ⟨o, ho⟩
        frame := fun _ _ _ st hk => ⟨st.1, st.2.1.at fun o e => hk it (by simp) o e, st.2.2.at fun o e => hk a (by simp) o e⟩
        item := fun j s Q E hj st _ => absurd st.1 (Nat.ne_of_lt hj)
        done := fun s Q E st hE => wpAny_nextOf_tuple_end (I.ok.hd hc) st.2.1 st.2.2 (by simp; omega) hE }
    exact wpAny_pyNext_enum_endD D' he ⟨rfl, hit, pT⟩ fun h' eb => ⟨rfl, I.turned (t' := s.toks) (fun b o hb q => eb b o hb q) f0 f1 f3 f4 f5⟩
  self := fun A i s Q E ⟨⟨_, he⟩, _⟩ h => wpAny_pyIter_enum he h
def iEnumU (K : PySem.W.Frag) (ta : TA) : TI := fun σ H R => ta σ H fun vs H1 => ∃ a, vs = [.ref a] ∧ ((∃ xs, SqL K H1 a xs ∧ R (Ite K a) H1) ∨ ∃ xs, SqT K H1 a xs ∧ R (IteT K a) H1)
theorem pi_enumU {X : Cx} {K : PySem.W.Frag} {e : Expr} {ta : TA} {p pos tpos : Pos} {elts : List Expr} {kk : Nat} (hK : X.K = K) (hg : Gl X "enumerate") (hm : X.mg "enumerate" = none) (ha : PA X [e] ta) (hs : starEach [e] X.env = [(false, eval e X.env)] := by rfl) :
    PI X (.Tuple elts kk tpos) (.Call (.Name "enumerate" p) [e] [] pos) (iEnumU K ta) := by
  subst hK
  refine ⟨fun pins s σ H R I h => Call_ (ld_blt I hg hm boot_enumerate (PyProof.Rows.callWith_type1 (thn (ha.run pos pins s σ H _ I h) fun us s1 ⟨vs, H1, I1, r1, q1⟩ => ?_) hs rfl))⟩
  obtain ⟨a, rfl, q⟩ := q1
  cases r1 with
  | cons r rr =>
    cases rr
    cases r
    have fpk : ∀ b ∈ [s1.heap.objs.size + 1, s1.heap.objs.size], FpOk X pins H1 b := fun b hb => by
      have hle : s1.heap.objs.size ≤ b := by
        rcases (show b = s1.heap.objs.size + 1 ∨ b = s1.heap.objs.size by simpa using hb) with rfl | rfl <;> omega
      exact I1.fpOk hle (I1.hok.fresh hle)
    rcases q with ⟨xs, hq, q⟩ | ⟨xs, hq, q⟩
    · obtain ⟨its, rv, p', hz⟩ := I1.list hq
      refine enumB (begins_list a its.toArray) p'.isList fun h' he hit hk => wpAny_pyIter_enum he ?_
      exact ⟨s1.heap.objs.size + 1, _, _, _, H1, rfl, I1.kept (t' := s1.toks) hk, turn_enum a (s1.heap.objs.size + 1) s1.heap.objs.size, ⟨⟨.none, he⟩, ⟨_, hit, rfl, rfl⟩, Nat.succ_ne_self _⟩, fpk, q⟩
    · obtain ⟨its, rv, p', hz⟩ := I1.tuple hq
      refine enumB (begins_tuple a its.toArray) (show s1.heap.IsTuple a its.toArray from p') fun h' he hit hk => wpAny_pyIter_enum he ?_
      exact ⟨s1.heap.objs.size + 1, _, _, _, H1, rfl, I1.kept (t' := s1.toks) hk, turn_enumT a (s1.heap.objs.size + 1) s1.heap.objs.size, ⟨⟨.none, he⟩, ⟨_, hit, rfl, rfl⟩, Nat.succ_ne_self _⟩, fpk, q⟩
end Mw

set_option maxHeartbeats 4000000
namespace Mw
open PySem PySem.Spec PyProof.Rows L2
/-! ### name = {k: v for ..}, keys tuples, the name a local -/
section
variable {X : Cx} {kx vx tg iter : Expr} {ifs : List Expr} {scope : Scope} {own : List (Str × Nat)} {pos : Pos} {wi : TI} {g : TG} {tt : TT} {tk tv : TE}
theorem dcT_core {pins : List (Addr × Obj)} {s : Shared} {σ : L2.St} {H : Hp} {Q : VK} {pos' : Pos} {use : Option (Value → Sem Unit)} {Qf : Value → Shared → Prop} (I : Inv X pins σ H s) (hu : X.A.units + 1 < cLine) (hc : X.calm = true) (hN : X.N.Nodup) (hi : PI X tg iter wi) (ok : BlkOk X.N X.env.scope scope own)
    (hg : Blk X scope fun Y => PG Y tg g) (ht : Blk X scope fun Y => PTs Y ifs tt) (hk : Blk X scope fun Y => PE Y kx tk) (hv : Blk X scope fun Y => PE Y vx tv) (hs : ∀ x, foldedSetIterable iter X.env x = pure x) (h : tDcT wi g tt tk tv (own.map (·.2)) σ H Q)
    (hRR : ∀ D C s' m H', Inv X pins σ H' s' → Q (.ref D) H' → s'.heap.Ns C m → FpOk X pins H' C → compPost (model X.prog X.w) X.A X.xe use Qf (.ref D) C (.ok .next) s') :
    wpAny (model X.prog X.w) X.A (comprehension (.DictComp kx vx [⟨tg, iter, ifs, 0⟩] scope pos) scope X.env pos' newDict false (eval iter X.env) use) Qf X.xe s := by
  have frees : ∀ y ∈ scope.names, y.2 = .free → ∃ c, X.env.cells.lookup y.1 = some c := fun y hy e => (ok.free y hy e).elim (fun k => I.ok.has _ (.inl k)) fun k => I.ok.has _ (.inr k)
  refine wpAny_comprehension_free (use := use) rfl hs (closure_ok frees) ok.kind (fun y hy e => by rw [ok.uniq y hy, e]) (thn (hi.run pins s σ H _ I h) fun _ _ hx => thn hx fun _ s2 ⟨it, fp, tn, J, H2, e, I2, T, st2, f2, q⟩ => ?_)
  subst e
  refine wpAny_newObj_type (newEnv_comp ?_)
  obtain ⟨D, hD⟩ : ∃ D, D = s2.heap.objs.size := ⟨_, rfl⟩
  obtain ⟨W, ⟨m0, w0⟩, turn⟩ := q D (I2.hok.fresh (Nat.le_of_eq hD.symm))
  obtain ⟨s3, hs3⟩ : ∃ s3 : Shared, s3 = { s2 with heap := s2.heap.push { cls := .type "dict", data := .dict #[] } } := ⟨_, rfl⟩
  obtain ⟨H3, hH3⟩ : ∃ H3, H3 = upd H2 D (.dT []) := ⟨_, rfl⟩
  rw [← hH3] at w0
  have keep3 : ∀ b o, s2.heap.get? b = some o → s3.heap.get? b = some o := fun b o e => by rw [hs3]; exact Heap.get?_push_of_some _ e
  have I3 : Inv X pins σ H3 s3 := by
    rw [hs3, hH3, hD]
    exact I2.laid (t' := s2.toks) (fun b o e => Heap.get?_push_of_some _ e) (Nat.le_refl _) (dt_empty s2.heap I2.big)
  have f3 : ∀ b ∈ fp, FpOk X pins H3 b ∧ b < s3.heap.objs.size := fun b hb => by
    obtain ⟨o, e, _⟩ := T.obj _ _ st2 b hb
    have hlt := Heap.lt_size e
    refine ⟨⟨?_, (f2 b hb).2⟩, Heap.lt_size (keep3 b o e)⟩
    rw [hH3, upd_ne (by rw [hD]; exact Nat.ne_of_lt hlt)]
    exact (f2 b hb).1
  have I4 := block_start I3 ok hN f3
  have st3 : tn 0 s3.heap := T.keep _ _ _ st2 fun b _ o e => keep3 b o e
  obtain ⟨cl, hcl⟩ : ∃ cl, cl = cellsFrom (s3.heap.objs.size + 1) scope.names (cloFrom X.env.cells scope.names []) := ⟨_, rfl⟩
  have pg := hg s3 H3 s3.heap.objs.size cl fp
  have pt := ht s3 H3 s3.heap.objs.size cl fp
  have pk := hk s3 H3 s3.heap.objs.size cl fp
  have pv := hv s3 H3 s3.heap.objs.size cl fp
  have nfp : ∀ b ∈ fp, H3 b = none := fun b hb => (f3 b hb).1.1
  rw [← hcl] at I4
  obtain ⟨ce, hce⟩ : ∃ ce, ce = compEnvC scope cl s3.heap.objs.size X.env := ⟨_, rfl⟩
  obtain ⟨s4, hs4⟩ : ∃ s4 : Shared, s4 = { s3 with heap := pushCells (s3.heap.push { cls := .type "dict", data := .dict #[] }) scope.names } := ⟨_, rfl⟩
  rw [← hce] at I4 pg pt pk pv
  rw [← hs4] at I4
  have cL : ce.locals = s3.heap.objs.size := by rw [hce]; rfl
  suffices goal' : codeAny (model X.prog X.w) X.A (.compStart (.DictComp kx vx [⟨tg, iter, ifs, 0⟩] scope pos) 0 (.ref it) (.ref D) ce) (compPost (model X.prog X.w) X.A X.xe use Qf (.ref D) s3.heap.objs.size) s4 by
    rw [hce, hcl, hs4, hs3, hD] at goal'
    exact goal'
  have st4 : tn 0 s4.heap := T.keep _ _ _ st3 fun b _ o e => by rw [hs4]; exact pushCells_keeps _ _ _ _ (Heap.get?_push_of_some _ e)
  let Y := X.blk s3 H3 scope ce fp
  have own_ok : ∀ {σ' : L2.St} {H' : Hp} {s' : Shared}, Inv Y [] σ' H' s' → (∀ b ∈ fp, H' b = none) → ∀ b ∈ fp, FpOk Y [] H' b := fun {σ' H' s'} I' hn b hb =>
    ⟨hn b hb, (I'.ok.exf b hb).1, I'.ok.exfs b hb, .inl hb, fun x c e => (I'.ok.exf b hb).2 x c e, fun p hp => absurd (show p ∈ ([] : List (Addr × Obj)) ++ [] from hp) (by simp)⟩
  have loop : codeAny (model X.prog X.w) X.A (.compLoop (.DictComp kx vx [⟨tg, iter, ifs, 0⟩] scope pos) 0 (.ref it) (.ref D) ce) (compPost (model X.prog X.w) X.A X.xe use Qf (.ref D) s3.heap.objs.size) s4 := by
    refine compLoop_anyD (fun n s' => ∃ i H', Inv Y [] (wipe σ (own.map (·.2))) H' s' ∧ tn i s'.heap ∧ (∀ b ∈ fp, H' b = none) ∧ W i n H') ?_ m0 ⟨0, H3, I4, st4, nfp, w0⟩
    rintro n s5 ⟨i, H5, I5, st5, n5, w5⟩
    rcases turn i n H5 w5 with ⟨stop, qq⟩ | ⟨go, Nx, hNx, step⟩
    · refine thnF (T.done Y rfl rfl rfl hc i [] s5 _ H5 (fun _ _ => False) I5 (own_ok I5 n5) st5 stop) fun r s6 ⟨hr, I6⟩ => ?_
      subst hr
      have I7 : Inv X pins σ H5 s6 := I3.call' (ch := fp) I6.os I6.base I6.hok I6.bare fun b hb => ⟨(f3 b hb).1.2.2.2.1, (f3 b hb).1.2.1, (f3 b hb).1.2.2.2.2.1, (f3 b hb).1.2.2.2.2.2⟩
      have nC : H5 s3.heap.objs.size = none := by rw [← cL]; exact I6.free
      obtain ⟨m, hn, _⟩ := I6.loc
      have hn' : s6.heap.Ns s3.heap.objs.size m := by rw [← cL]; exact hn
      exact hRR D s3.heap.objs.size s6 m H5 I7 qq hn' (I3.fpOk (Nat.le_refl _) nC)
    · refine thnF (T.item Y rfl rfl rfl hc i [] s5 _ H5 (fun _ _ => False) I5 (own_ok I5 n5) st5 go) fun r s6 ⟨u, hr, h6⟩ => ?_
      subst hr
      refine thnF h6 fun _ s7 ⟨x, H7, I7, r7, y7, st7, n7⟩ => ?_
      have I7' := I7.pinned (own_ok I7 n7) (T.obj _ _ st7)
      refine thnF (pg.run _ s7 _ H7 x u _ I7' r7 (step x H7 y7)) fun _ s8 ⟨σ8, H8, I8, hw8, q8⟩ => ?_
      refine thnF (pt.run _ s8 σ8 H8 _ I8 q8) fun b s9 ⟨H9, I9, q9⟩ => ?_
      have fin : ∀ {s' : Shared} {H' : Hp}, Inv Y ([] ++ pinsAt fp s7.heap) σ8 H' s' → Nx H' → ∃ m, m < n ∧ ∃ i H', Inv Y [] (wipe σ (own.map (·.2))) H' s' ∧ tn i s'.heap ∧ (∀ b ∈ fp, H' b = none) ∧ W i m H' := fun {s' H'} I' nx => by
        obtain ⟨m', hm, w'⟩ := hNx H' nx
        have pin : ∀ b ∈ fp, ∀ o, s7.heap.get? b = some o → s'.heap.get? b = some o ∧ H' b = none := fun b hb o e => by
          have z := I'.pin (b, o) (List.mem_append_right _ (List.mem_append_right _ (mem_pinsAt hb e)))
          exact ⟨z.1, z.2.1⟩
        refine ⟨m', hm, i + 1, H', (I'.unpinned (pins := [])).weak (by rw [← hw8, wipe_length]) (fun j v e => by rw [← hw8] at e; exact (wipe_some e).1), T.keep _ _ _ st7 fun b hb o e => (pin b hb o e).1, fun b hb => ?_, w'⟩
        obtain ⟨o, e, _⟩ := T.obj _ _ st7 b hb
        exact (pin b hb o e).2
      cases b with
      | false =>
        simp only [Bool.false_eq_true, if_false] at q9 ⊢
        exact fin I9 q9
      | true =>
        simp only [if_true] at q9 ⊢
        refine thnF (pk.run _ s9 σ8 H9 _ I9 q9) fun z s10 ⟨yk, H10, I10, r10, q10⟩ => ?_
        refine thnF (pv.run _ s10 σ8 H10 _ I10 q10) fun z2 s11 ⟨yv, H11, I11, r11, kvs, k, kb, ek, hkb, hD11, hz11, nx⟩ => ?_
        subst ek
        obtain rfl : z = Value.ref kb := r10
        exact setT (X := Y) hu I11 hD11 hkb hz11 r11 fun s12 I12 => fin I12 nx
  exact codeAny_compStart_dict loop (T.self X.A 0 _ _ _ st4 loop)
theorem ps_setDcT {i : Nat} {y : Str} {py spos : Pos} (hu : X.A.units + 1 < cLine) (hc : X.calm = true) (hN : X.N.Nodup) (hy : X.N[i]? = some y) (hyl : X.env.scope.names.lookup y = some .local) (hsw : swapsWith (.DictComp kx vx [⟨tg, iter, ifs, 0⟩] scope pos) (some (.Name y py)) spos.line X.env = pure true)
    (hi : PI X tg iter wi) (ok : BlkOk X.N X.env.scope scope own) (hg : Blk X scope fun Y => PG Y tg g) (ht : Blk X scope fun Y => PTs Y ifs tt) (hk : Blk X scope fun Y => PE Y kx tk) (hv : Blk X scope fun Y => PE Y vx tv) (hs : ∀ x, foldedSetIterable iter X.env x = pure x := by intro _; rfl) :
    PS X (.Assign [.Name y py] (.DictComp kx vx [⟨tg, iter, ifs, 0⟩] scope pos) spos) (tAsg (tDcT wi g tt tk tv (own.map (·.2))) (gName i)) := by
  refine ⟨fun pins s σ H D I h => ?_⟩
  rw [exec_Assign_Name_used _ _ _ _ hsw]
  refine wpAny_bind (wpAny_standAt (wpAny_bind ?_))
  show wpAny _ X.A (do let _ ← comprehension (.DictComp kx vx [⟨tg, iter, ifs, 0⟩] scope pos) scope X.env (firstIterPos [⟨tg, iter, ifs, 0⟩] pos) newDict false (eval iter X.env) (some (assign (.Name y py) X.env))) _ _ s
  have h : tDcT wi g tt tk tv (own.map (·.2)) σ H (fun x H1 => gName i x σ H1 D.nx) := h
  refine wpAny_bind (thn (dcT_core (Qf := fun _ s' => SP X pins D .next s') I hu hc hN hi ok hg ht hk hv hs h fun L C s' m H' I' q hn f => ?_) fun _ s' hq => wpAny_pure (wpAny_pure hq))
  show wpAny _ _ (assign (.Name y py) X.env (.ref L)) _ _ _
  obtain ⟨e0, e1, e2, e3, e4, e5⟩ := f
  refine wpAny_assign_Name (store_ok2 (v := V.ref L) I' hN hy (.inl hyl) rfl (fun s2 I2 ⟨a, sb, ha⟩ => ?_) (.inr hyl))
  have haC : C ≠ a := ha.elim (fun z => by rw [z]; exact e1) fun z e => e4 y a z e.symm
  exact ⟨m, hn.sameBut sb haC, fun h3 sb3 => ⟨_, H', I2.turned (t' := s2.toks) (fun b o hb e => (sb3.2 b hb).trans e) e0 e1 e3 e4 e5, q⟩⟩
theorem sw_dc {gs : List Comprehension} {sc : Scope} {p py : Pos} {y : Str} {l : Nat} {env : Env} (h1 : env.scope.kind = .function) (h2 : env.scope.names.lookup y = some .local) (h3 : (py.line == p.line) = true)
    (h4 : (sc.names.any fun (n, k) => n == y && (k == .local || k == .cell)) = false) : swapsWith (.DictComp kx vx gs sc p) (some (.Name y py)) l env = pure true := by
  have a1 : env.kindOf y = some .local := h2
  have a2 : env.blockKind = .function := by unfold Env.blockKind; rw [h1]; rfl
  unfold swapsWith
  simp only [a2, a1, h4, Expr.pos, h3]
  rfl
theorem ps_setDcA {i : Nat} {y : Str} {py spos : Pos} {vs : List Nat} (hvv : own.map (·.2) = vs) (hu : X.A.units + 1 < cLine) (hc : X.calm = true) (hN : X.N.Nodup) (hy : X.N[i]? = some y) (hyl : X.env.scope.names.lookup y = some .local) (hsw : swapsWith (.DictComp kx vx [⟨tg, iter, ifs, 0⟩] scope pos) (some (.Name y py)) spos.line X.env = pure true)
    (hi : PI X tg iter wi) (ok : BlkOk X.N X.env.scope scope own) (hg : Blk X scope fun Y => PG Y tg g) (ht : Blk X scope fun Y => PTs Y ifs tt) (hk : Blk X scope fun Y => PE Y kx tk) (hv : Blk X scope fun Y => PE Y vx tv) (hs : ∀ x, foldedSetIterable iter X.env x = pure x := by intro _; rfl) :
    PS X (.Assign [.Name y py] (.DictComp kx vx [⟨tg, iter, ifs, 0⟩] scope pos) spos) (tAsg (tDcT wi g tt tk tv vs) (gName i)) := hvv ▸ ps_setDcT hu hc hN hy hyl hsw hi ok hg ht hk hv hs
end
end Mw

set_option maxHeartbeats 4000000
/-! AwP: enumerate, d.get. -/
namespace Aw
open PySem PySem.Spec PyProof.Rows L2 Mw Lw
def enFrom (n : Nat) : List PyData → List W
  | [] => []
  | d :: ds => .d (.tuple [.int (n : Nat), d]) :: enFrom (n + 1) ds
abbrev enL (ds : List PyData) : List W := enFrom 0 ds
theorem enFrom_get : ∀ (ds : List PyData) (n i : Nat), (enFrom n ds)[i]? = (ds[i]?).map fun d => W.d (.tuple [.int ((n + i : Nat) : Int), d])
  | [], n, i => by simp [enFrom]
  | d :: ds, n, 0 => by simp [enFrom]
  | d :: ds, n, i + 1 => by
    rw [enFrom, List.getElem?_cons_succ, enFrom_get ds (n + 1) i, List.getElem?_cons_succ]
    rw [show n + 1 + i = n + (i + 1) by omega]
theorem enL_get (ds : List PyData) (i : Nat) : (enL ds)[i]? = (ds[i]?).map fun d => W.d (.tuple [.int (i : Int), d]) := by
  rw [enFrom_get, Nat.zero_add]
theorem enFrom_len : ∀ (ds : List PyData) (n : Nat), (enFrom n ds).length = ds.length
  | [], _ => rfl
  | d :: ds, n => by rw [enFrom, List.length_cons, enFrom_len ds, List.length_cons]
def enW (σ : Sto) (R : List W → (Sto → Prop) → Sto → Prop) : W → Prop
  | .d (.list ds) => R (enL ds) (fun _ => True) σ
  | .d (.tuple ds) => R (enL ds) (fun _ => True) σ
  | .ref i => ∃ ds, σ[i]? = some (.lst (ds.map .d)) ∧ R (enL ds) (fun σ' => σ'[i]? = some (.lst (ds.map .d))) σ
  | _ => False
def aEnum (fr : AA) : AI := fun e σ R X => fr e σ (fun ws σ1 => ∃ w, ws = [w] ∧ enW σ1 R w) X
section
variable {Z : Zx} {E : L2.St → XK} {ta tb tc : TE} {fa fb fc : AE} {t : TA} {fr : AA} {K : PySem.W.Frag}
theorem wrs_rpAll {ρ : List Addr} {H : Hp} : ∀ {vs : List V} {ds : List PyData}, WRs K ρ H vs (ds.map .d) → RpAll K ρ H vs ds
  | _, [], h => by cases h; exact .nil
  | _, d :: ds, h => by
    cases h with
    | cons h t => exact .cons h (wrs_rpAll t)
theorem it_en {ρ : List Addr} {H : Hp} {ds : List PyData} {stay : Sto → Prop} {J : It} {sq : Hp → List V → Prop}
    (h : ∀ ρ' σ' H', Go Z.T ρ H ρ' H' → Rel Z.K Z.T ρ' σ' H' → stay σ' → ∃ xs, sq H' xs ∧ RpAll Z.K ρ' H' xs ds)
    (hgo : ∀ i H xs x, sq H xs → xs[i]? = some x → J.go i H) (hst : ∀ i H xs, sq H xs → xs.length ≤ i → J.stop i H)
    (hy : ∀ i H v H' xs, sq H xs → J.yld i H v H' → ∃ T x, v = .ref T ∧ H T = none ∧ H' = upd H T (.tup [.int (i : Nat), x]) ∧ xs[i]? = some x) : ItR Z ρ H J (enL ds) stay := fun ρ' σ' H' g r st => by
  obtain ⟨xs, s1, wr⟩ := h ρ' σ' H' g r st
  refine ⟨fun i w hw => ?_, hst _ _ xs s1 (by rw [enFrom_len, rpAll_len wr]; exact Nat.le_refl _)⟩
  rw [enL_get] at hw
  obtain ⟨d, hd, rfl⟩ := Option.map_eq_some_iff.mp hw
  obtain ⟨x, hx, rx⟩ := rpAll_get wr hd
  refine ⟨hgo _ _ _ x s1 hx, fun y H2 yl => ?_⟩
  obtain ⟨T, x', rfl, hn, rfl, hx'⟩ := hy _ _ _ _ xs s1 yl
  rw [hx] at hx'
  cases hx'
  exact ⟨Go.lay hn, r.lay hn, Rp.tup (.of upd_same rfl) (.cons (.int _) (.cons (Go.rp r (Go.lay hn) rx) .nil))⟩
theorem en_L {a : Addr} {ρ : List Addr} {H : Hp} {ds : List PyData} {stay : Sto → Prop} (h : ∀ ρ' σ' H', Go Z.T ρ H ρ' H' → Rel Z.K Z.T ρ' σ' H' → stay σ' → ∃ xs, SqL Z.K H' a xs ∧ RpAll Z.K ρ' H' xs ds) : ItR Z ρ H (Ite Z.K a) (enL ds) stay :=
  it_en (sq := fun H xs => SqL Z.K H a xs) h (fun i H xs x s hx => ⟨xs, x, s, hx⟩) (fun i H xs s hl => ⟨xs, s, hl⟩) fun i H v H' xs s ⟨T, x, h1, h2, h3, h4⟩ => ⟨T, x, h1, h2, h3, h4 xs s⟩
theorem en_T {a : Addr} {ρ : List Addr} {H : Hp} {ds : List PyData} {stay : Sto → Prop} (h : ∀ ρ' σ' H', Go Z.T ρ H ρ' H' → Rel Z.K Z.T ρ' σ' H' → stay σ' → ∃ xs, SqT Z.K H' a xs ∧ RpAll Z.K ρ' H' xs ds) : ItR Z ρ H (IteT Z.K a) (enL ds) stay :=
  it_en (sq := fun H xs => SqT Z.K H a xs) h (fun i H xs x s hx => ⟨xs, x, s, hx⟩) (fun i H xs s hl => ⟨xs, s, hl⟩) fun i H v H' xs s ⟨T, x, h1, h2, h3, h4⟩ => ⟨T, x, h1, h2, h3, h4 xs s⟩
theorem enW_sim {ρ : List Addr} {σ : Sto} {H : Hp} {x : V} {Ra : List W → (Sto → Prop) → Sto → Prop} {R : It → Hp → Prop} (rl : Rel Z.K Z.T ρ σ H) : ∀ {w : W}, WR Z.K ρ H x w → enW σ Ra w → KI Z ρ H Ra R →
    ∃ a, [x] = [.ref a] ∧ ((∃ xs, SqL Z.K H a xs ∧ R (Ite Z.K a) H) ∨ ∃ xs, SqT Z.K H a xs ∧ R (IteT Z.K a) H)
  | .d (.list ds), h, q, k => by
    have h : Rp Z.K ρ H x (.list ds) := h
    cases h with
    | lst h1 h2 =>
      refine ⟨_, rfl, .inl ⟨_, .inl h1.2, k _ _ _ _ _ _ .refl rl (en_L fun ρ' σ' H' g r _ => ?_) q⟩⟩
      exact ⟨_, .inl (g.sqO rl h1).2, g.rpAll rl h2⟩
  | .d (.tuple ds), h, q, k => by
    obtain ⟨a, xs, rfl, h1, h2⟩ := h.tup
    refine ⟨_, rfl, .inr ⟨_, .inl h1.rd, k _ _ _ _ _ _ .refl rl (en_T fun ρ' σ' H' g r _ => ?_) q⟩⟩
    exact ⟨_, .inl (g.tuA rl h1).rd, g.rpAll rl h2⟩
  | .ref i, h, q, k => by
    obtain ⟨a, ha, rfl⟩ := h
    obtain ⟨ds, hc, q⟩ := q
    obtain ⟨xs, e1, e2⟩ := rl.cell i a _ ha hc
    refine ⟨_, rfl, .inl ⟨_, .inl (.inl e1), k _ _ _ _ _ _ .refl rl (en_L fun ρ' σ' H' g r st => ?_) q⟩⟩
    obtain ⟨ys, e3, e4⟩ := r.cell i a _ (g.at_ ha) st
    exact ⟨ys, .inl (.inl e3), wrs_rpAll e4⟩
  | .d .none, _, q, _ => q.elim
  | .d (.bool _), _, q, _ => q.elim
  | .d (.int _), _, q, _ => q.elim
  | .d (.str _), _, q, _ => q.elim
  | .d (.dict _), _, q, _ => q.elim
  | .scr _, _, q, _ => q.elim
instance sim_enum [ir : SimA Z E t fr] : SimI Z E (iEnumU Z.K t) (aEnum fr) := ⟨fun r er h k kx =>
  ir.sim r er h (fun _ _ _ _ _ g r' v h' => by
    obtain ⟨w, rfl, q⟩ := h'
    cases v with
    | cons v1 v2 =>
      cases v2
      exact enW_sim r' v1 q (k.go g)) kx⟩
instance [MoA fr] : MoI (aEnum fr) := ⟨fun k q => MoA.mo (f := fr) (fun _ _ ⟨w, h, q⟩ => ⟨w, h, by
  cases w with
  | ref i => obtain ⟨ds, h, q⟩ := q; exact ⟨ds, h, k _ _ _ q⟩
  | scr i => exact q.elim
  | d x => cases x <;> first | exact q.elim | exact k _ _ _ q⟩) q⟩
/-! ### d.get -/
noncomputable def gtW (Q : QK) (w y z : W) (σ : Sto) : Prop := ∃ i t kvs kd, w = .ref i ∧ σ[i]? = some (.dct t kvs) ∧ y = .d kd ∧ (if t = true then isKT kd = true else isK kd = true) ∧ Q ((dget kvs kd).getD z) σ
noncomputable def aGet1 (fd fk : AE) : AE := fun e σ Q X => fd e σ (fun w σ1 => (prsOf σ1 w).isSome = true ∧ fk e σ1 (fun y σ2 => gtW Q w y (.d .none) σ2) X) X
noncomputable def aGet2 (fd fk fx : AE) : AE := fun e σ Q X => fd e σ (fun w σ1 => (prsOf σ1 w).isSome = true ∧ fk e σ1 (fun y σ2 => fx e σ2 (fun z σ3 => gtW Q w y z σ3) X) X) X
theorem prs_isD {ρ : List Addr} {σ : Sto} {H : Hp} {v : V} {w : W} (rl : Rel Z.K Z.T ρ σ H) (h : WR Z.K ρ H v w) (e : (prsOf σ w).isSome = true) : ∃ a, v = .ref a ∧ IsD H a := by
  obtain ⟨kvs, hk⟩ := Option.isSome_iff_exists.mp e
  obtain ⟨a, rfl, hh⟩ := prsOf_rd rl h hk
  rcases hh with ⟨hk, r, _⟩ | ⟨hk, r, _⟩
  · exact ⟨a, rfl, .inl ⟨hk, r⟩⟩
  · exact ⟨a, rfl, .inr ⟨hk, r⟩⟩
theorem gt_sim {ρ : List Addr} {σ : Sto} {H : Hp} {a : Addr} {y z : V} {w wy wz : W} {Qa : QK} {Q : VK} (rl : Rel Z.K Z.T ρ σ H) (va : WR Z.K ρ H (.ref a) w) (vy : WR Z.K ρ H y wy) (vz : WR Z.K ρ H z wz) (q : gtW Qa w wy wz σ) (kq : KQ Z ρ H Qa Q) : ∃ o, DGet H a y o ∧ Q (o.getD z) H := by
  obtain ⟨i, t, kvs, kd, rfl, hc, rfl, hk, q⟩ := q
  obtain ⟨b, hb, e⟩ := va
  cases e
  have fin : ∀ {o : Option V}, ORw Z.K ρ H o (dget kvs kd) → Q (o.getD z) H := fun {o} h => by
    cases ho : dget kvs kd with
    | none =>
      rw [ho] at h q
      cases o with
      | none => exact kq _ _ _ _ _ .refl rl vz q
      | some v => exact h.elim
    | some w' =>
      rw [ho] at h q
      cases o with
      | none => exact h.elim
      | some v => exact kq _ _ _ _ _ .refl rl h q
  cases t with
  | true =>
    rw [if_pos rfl] at hk
    obtain ⟨ks, rfl⟩ := isKT_of hk
    obtain ⟨b, rfl, hb'⟩ := rp_keyT vy
    obtain ⟨hkv, e1, e2⟩ := rl.cell i a _ hb hc
    exact ⟨_, .inr ⟨hkv, ks, b, .inl e1, rfl, hb', rfl⟩, fin (prs_get (fun _ _ => kT_inj) ks e2)⟩
  | false =>
    rw [if_neg (by decide)] at hk
    obtain ⟨ks, rfl⟩ := isK_of hk
    have ev := rp_key vy
    subst ev
    obtain ⟨hkv, e1, e2⟩ := rl.cell i a _ hb hc
    exact ⟨_, .inl ⟨hkv, ks, .inl e1, rfl, rfl⟩, fin (prs_get (fun _ _ => kD_inj) ks e2)⟩
instance sim_get1 [ia : SimE Z E ta fa] [ib : SimE Z E tb fb] : SimE Z E (tDGet1 ta tb) (aGet1 fa fb) := ⟨fun r er h kq kx =>
  ia.sim r er h (fun _ _ _ _ _ g1 r1 v1 h1 => by
    obtain ⟨a, rfl, hd⟩ := prs_isD r1 v1 h1.1
    refine ⟨a, rfl, hd, ib.sim r1 (g1.er r er) h1.2 (fun _ _ _ _ _ g2 r2 v2 h2 => ?_) (kx.go g1)⟩
    exact gt_sim r2 (g2.wr r1 v1) v2 (w := _) (wz := .d .none) Rp.non h2 (kq.go (g1.trans g2))) kx⟩
instance sim_get2 [ia : SimE Z E ta fa] [ib : SimE Z E tb fb] [ic : SimE Z E tc fc] : SimE Z E (tDGet2 ta tb tc) (aGet2 fa fb fc) := ⟨fun r er h kq kx =>
  ia.sim r er h (fun _ _ _ _ _ g1 r1 v1 h1 => by
    obtain ⟨a, rfl, hd⟩ := prs_isD r1 v1 h1.1
    refine ⟨a, rfl, hd, ib.sim r1 (g1.er r er) h1.2 (fun _ _ _ _ _ g2 r2 v2 h2 => ?_) (kx.go g1)⟩
    exact ic.sim r2 ((g1.trans g2).er r er) h2 (fun _ _ _ _ _ g3 r3 v3 h3 => gt_sim r3 ((g2.trans g3).wr r1 v1) (g3.wr r2 v2) v3 h3 (kq.go ((g1.trans g2).trans g3))) (kx.go (g1.trans g2))) kx⟩
theorem gtW.mo {Q Q' : QK} (k : ∀ w s, Q w s → Q' w s) {w y z : W} {σ : Sto} (h : gtW Q w y z σ) : gtW Q' w y z σ := let ⟨i, t, kvs, kd, h1, h2, h3, h4, q⟩ := h; ⟨i, t, kvs, kd, h1, h2, h3, h4, k _ _ q⟩
instance [MoE fa] [MoE fb] : MoE (aGet1 fa fb) := ⟨fun k q => MoE.mo (f := fa) (fun _ _ ⟨h, q⟩ => ⟨h, MoE.mo (f := fb) (fun _ _ q => gtW.mo k q) q⟩) q⟩
instance [MoE fa] [MoE fb] [MoE fc] : MoE (aGet2 fa fb fc) := ⟨fun k q => MoE.mo (f := fa) (fun _ _ ⟨h, q⟩ => ⟨h, MoE.mo (f := fb) (fun _ _ q => MoE.mo (f := fc) (fun _ _ q => gtW.mo k q) q) q⟩) q⟩
theorem r_get1 {e : Ev} {σ : Sto} {Q : QK} {X : XQ} (h : fa e σ (fun w σ1 => (prsOf σ1 w).isSome = true ∧ fb e σ1 (fun y σ2 => gtW Q w y (.d .none) σ2) X) X) : aGet1 fa fb e σ Q X := h
theorem r_get2 {e : Ev} {σ : Sto} {Q : QK} {X : XQ} (h : fa e σ (fun w σ1 => (prsOf σ1 w).isSome = true ∧ fb e σ1 (fun y σ2 => fc e σ2 (fun z σ3 => gtW Q w y z σ3) X) X) X) : aGet2 fa fb fc e σ Q X := h
theorem r_gt {σ : Sto} {Q : QK} {i : Nat} {t : Bool} {kvs : List (PyData × W)} {kd : PyData} {z : W} (hc : σ[i]? = some (.dct t kvs)) (hk : if t = true then isKT kd = true else isK kd = true) (q : Q ((dget kvs kd).getD z) σ) : gtW Q (.ref i) (.d kd) z σ := ⟨i, t, kvs, kd, rfl, hc, rfl, hk, q⟩
theorem r_en {e : Ev} {σ : Sto} {R : List W → (Sto → Prop) → Sto → Prop} {X : XQ} (h : fr e σ (fun ws σ1 => ∃ w, ws = [w] ∧ enW σ1 R w) X) : aEnum fr e σ R X := h
end
end Aw

set_option maxHeartbeats 8000000
set_option synthInstance.maxHeartbeats 2000000
set_option synthInstance.maxSize 100000
/-! L8P: k08: its own defs as abstract programs (generated). -/
namespace Lw
open PySem PySem.Spec PyProof.Rows L2 Mw Aw
noncomputable abbrev p8Nof : AS := (aRet (aTupG (aIt (aVar 0)) (agN 1) aYes (aOp ixW (aVar 1) (aD (.int 0))) [1]))
noncomputable abbrev p8By : AS := (aRet (aDcT (aIt (aVar 0)) (agN 1) aYes (aOp ixW (aVar 1) (aD (.int 0))) (aVar 1) [1]))
noncomputable abbrev p8Eby : AS := (aSeq (aAsg (aDcT (aIt (aVar 0)) (agN 3) aYes (aVar 3) (aD (.bool true)) [3]) (agN 2))
  (aSeq (aFor (aIt (aVar 0)) (agN 3)
    (aFor (aIt (aOp ixW (aVar 1) (aVar 3))) (agN 4)
    (aDPut (aVar 2) (aVar 4) (aD (.bool true)))))
  (aRet (aVar 2))))
noncomputable abbrev p8Kno (fEby : AF) : AS := (aSeq (aAsg (aDNew true) (agN 1))
  (aSeq (aFor (aIt (aVar 0)) (agN 2)
    (aDPut (aVar 1) (aOp ixW (aVar 2) (aD (.int 0))) (aCall fEby 2 (aCons (aOp ixW (aVar 2) (aD (.int 2))) (aCons (aVar 1) aNil)))))
  (aRet (aVar 1))))
noncomputable abbrev p8Brn (fNof : AF) : AS := (aRet (aTupG (aIt (aCall fNof 1 (aCons (aVar 0) aNil))) (agN 2) (aTest (aOp (ra2 (eqF false)) (aOp ixW (aVar 2) (aD (.int 1))) (aVar 1))) (aVar 2) [2]))
noncomputable abbrev p8Ein (fBy : AF) : AS := (aSeq (aAsg (aCall fBy 1 (aCons (aVar 1) aNil)) (agN 2))
  (aSeq (aFor (aIt (aVar 0)) (agN 3)
    (aDPut (aVar 2) (aOp ixW (aVar 3) (aD (.int 0))) (aVar 3)))
  (aRet (aTupG (aIt (aCB srtW (aCons (aVar 2) aNil))) (agN 4) aYes (aOp ixW (aVar 2) (aVar 4)) [4]))))
noncomputable abbrev p8Joi (fBrn fKno fBy fEin : AF) : AS := (aSeq (aAsg (aCall fEin 2 (aCons (aVar 0) (aCons (aVar 1) aNil))) (agN 2))
  (aSeq (aAsg (aCall fBy 1 (aCons (aVar 1) aNil)) (agN 3))
  (aSeq (aAsg (aCall fKno 1 (aCons (aVar 2) aNil)) (agN 4))
  (aSeq (aFor (aEnum (aCons (aVar 2) aNil)) (agT 2 (agCons (agN 5) (agCons (agN 6) agNil)))
    (aSeq (aAsg (aOp ixW (aVar 6) (aD (.int 0))) (agN 7))
  (aSeq (aIfS (aTest (aOp (ra2 (eqF true)) (aGet2 (aVar 3) (aVar 7) (aVar 6)) (aVar 6)))
    aNever
    aNext)
  (aSeq (aAsg (aCall fBrn 2 (aCons (aSl (aVar 2) aNoP (aPart (aVar 5))) (aCons (aOp ixW (aVar 7) (aD (.int 1))) aNil))) (agN 8))
  (aIfS (aNot (aTest (aAllG (aIt (aVar 8)) (agN 9) aYes (aOp (inW false) (aVar 9) (aOp ixW (aVar 4) (aVar 7))) [9] true)))
    aNever
    aNext)))))
  (aRet (aVar 2))))))
noncomputable abbrev p8Part (fDraw : AF) : AS := (aSeq (aAsg (aCB srtW (aCons (aOp ixW (aVar 1) (aD (.str "changes"))) aNil)) (agN 2))
  (aSeq (aAsg (aLst aNil) (agN 3))
  (aSeq (aFor (aR1 (aCons (aOp (ra2 mulD) (aOp ixW (aLst (aCons (aD (.int 0)) (aCons (aD (.int 1)) (aCons (aD (.int 2)) (aCons (aD (.int 3)) (aCons (aD (.int 16)) (aCons (aD (.int 2)) (aCons (aD (.int 1)) (aCons (aD (.int 1)) aNil))))))))) (aCall fDraw 2 (aCons (aVar 0) (aCons (aD (.int 8)) aNil)))) (aCB intW (aCons (aOp (ra2 (eqF true)) (aVar 2) (aLst aNil)) aNil))) aNil)) (agN 4)
    (aSeq (aAsg (aOp ixW (aVar 2) (aCall fDraw 2 (aCons (aVar 0) (aCons (aCB lenW (aCons (aVar 2) aNil)) aNil)))) (agN 5))
  (aAsg (aOp (ra2 addD) (aOp (ra2 addD) (aVar 3) (aOp ixW (aOp ixW (aVar 1) (aD (.str "knows"))) (aVar 5))) (aLst (aCons (aVar 5) aNil))) (agN 3))))
  (aRet (aVar 3)))))
noncomputable abbrev p8Law (fJoi fLedger fDraw fPart fWorld fWords fFeed : AF) : AS := (aSeq (aAsg (aCall fFeed 1 (aCons (aVar 0) aNil)) (agN 1))
  (aSeq (aAsg (aCall fWords 2 (aCons (aVar 1) (aCons (aOp (ra2 addD) (aD (.int 1)) (aCall fDraw 2 (aCons (aVar 1) (aCons (aD (.int 6)) aNil)))) aNil))) (agN 2))
  (aSeq (aAsg (aCall fWorld 3 (aCons (aVar 1) (aCons (aVar 2) (aCons (aCall fDraw 2 (aCons (aVar 1) (aCons (aD (.int 17)) aNil))) aNil)))) (agN 3))
  (aSeq (aAsg (aLc (aR1 (aCons (aD (.int 4)) aNil)) (agN 5) aYes (aCall fPart 2 (aCons (aVar 1) (aCons (aVar 3) aNil))) [5]) (agN 4))
  (aSeq (aAsg (aLc (aIt (aVar 4)) (agN 7) aYes (aCall fLedger 2 (aCons (aVar 3) (aCons (aVar 7) aNil))) [7]) (agN 6))
  (aSeq (aAsg (aCB reprW (aCons (aVar 6) aNil)) (agN 8))
  (aSeq (aFor (aIt (aTup (aCons (aTup (aCons (aD (.int 0)) (aCons (aD (.int 1)) aNil))) (aCons (aTup (aCons (aD (.int 1)) (aCons (aD (.int 2)) aNil))) (aCons (aTup (aCons (aD (.int 2)) (aCons (aD (.int 3)) aNil))) (aCons (aTup (aCons (aD (.int 0)) (aCons (aD (.int 1)) aNil))) aNil)))))) (agT 2 (agCons (agN 9) (agCons (agN 10) agNil)))
    (aSeq (aAsg (aCB reprW (aCons (aCall fLedger 2 (aCons (aVar 3) (aCons (aOp (ra2 addD) (aOp ixW (aVar 4) (aVar 9)) (aOp ixW (aVar 4) (aVar 10))) aNil))) aNil)) (agN 11))
  (aSeq (aIfS (aTest (aOp (ra2 (eqF true)) (aLst (aCons (aCB reprW (aCons (aCall fJoi 2 (aCons (aOp ixW (aVar 6) (aVar 9)) (aCons (aOp ixW (aVar 6) (aVar 10)) aNil))) aNil)) (aCons (aCB reprW (aCons (aCall fJoi 2 (aCons (aOp ixW (aVar 6) (aVar 10)) (aCons (aOp ixW (aVar 6) (aVar 9)) aNil))) aNil)) aNil))) (aLst (aCons (aVar 11) (aCons (aVar 11) aNil)))))
    (aRet (aD (.bool false)))
    aNext)
  (aSeq (aAsg (aOp ixW (aVar 6) (aVar 9)) (agN 12))
  (aSeq (aIfS (aTest (aOp (ra2 (eqF true)) (aLst (aCons (aCB reprW (aCons (aCall fJoi 2 (aCons (aVar 12) (aCons (aVar 12) aNil))) aNil)) (aCons (aCB reprW (aCons (aCall fJoi 2 (aCons (aVar 12) (aCons (aTup aNil) aNil))) aNil)) (aCons (aCB reprW (aCons (aCall fJoi 2 (aCons (aTup aNil) (aCons (aVar 12) aNil))) aNil)) aNil)))) (aOp repW (aLstC (aCons (aCB reprW (aCons (aVar 12) aNil)) aNil)) (aD (.int 3)))))
    (aRet (aD (.bool false)))
    aNext)
  (aSeq (aAsg (aCall fDraw 2 (aCons (aVar 1) (aCons (aD (.int 4)) aNil))) (agN 13))
  (aSeq (aAsg (aCB reprW (aCons (aCall fLedger 2 (aCons (aVar 3) (aCons (aOp (ra2 addD) (aOp (ra2 addD) (aOp ixW (aVar 4) (aVar 9)) (aOp ixW (aVar 4) (aVar 10))) (aOp ixW (aVar 4) (aVar 13))) aNil))) aNil)) (agN 11))
  (aSeq (aIfS (aTest (aOp (ra2 (eqF true)) (aCB reprW (aCons (aCall fJoi 2 (aCons (aCall fJoi 2 (aCons (aOp ixW (aVar 6) (aVar 9)) (aCons (aOp ixW (aVar 6) (aVar 10)) aNil))) (aCons (aOp ixW (aVar 6) (aVar 13)) aNil))) aNil)) (aVar 11)))
    (aRet (aD (.bool false)))
    aNext)
  (aIfS (aTest (aOp (ra2 (eqF true)) (aCB reprW (aCons (aCall fJoi 2 (aCons (aOp ixW (aVar 6) (aVar 9)) (aCons (aCall fJoi 2 (aCons (aOp ixW (aVar 6) (aVar 10)) (aCons (aOp ixW (aVar 6) (aVar 13)) aNil))) aNil))) aNil)) (aVar 11)))
    (aRet (aD (.bool false)))
    aNext)))))))))
  (aRet (aOp (ra2 (eqF false)) (aCB reprW (aCons (aVar 6) aNil)) (aVar 8))))))))))
end Lw

set_option maxHeartbeats 8000000
set_option synthInstance.maxHeartbeats 2000000
set_option synthInstance.maxSize 100000
/-! L5P: k05: its own defs as abstract programs (generated). -/
namespace Lw
open PySem PySem.Spec PyProof.Rows L2 Mw Aw
noncomputable abbrev p5Nof : AS := (aRet (aTupG (aIt (aVar 0)) (agN 1) aYes (aOp ixW (aVar 1) (aD (.int 0))) [1]))
noncomputable abbrev p5Tops (fNof : AF) : AS := (aSeq (aAsg (aDc2 (aIt (aVar 0)) (agN 2) aYes (aIt (aOp ixW (aVar 2) (aD (.int 2)))) (agN 3) aYes (aVar 3) (aD (.bool true)) [2, 3] [3]) (agN 1))
  (aRet (aTupG (aIt (aCall fNof 1 (aCons (aVar 0) aNil))) (agN 3) (aTest (aOp (inW true) (aVar 3) (aVar 1))) (aVar 3) [3])))
noncomputable abbrev p5Brn (fNof : AF) : AS := (aRet (aTupG (aIt (aCall fNof 1 (aCons (aVar 0) aNil))) (agN 2) (aTest (aOp (ra2 (eqF false)) (aOp ixW (aVar 2) (aD (.int 1))) (aVar 1))) (aVar 2) [2]))
noncomputable abbrev p5Part : AS := (aSeq (aAsg (aCB listW (aCons (aVar 1) aNil)) (agN 2))
  (aSeq (aFor (aIt (aVar 1)) (agN 3)
    (aAsg (aOp (ra2 addD) (aVar 2) (aOp ixW (aOp ixW (aVar 0) (aD (.str "knows"))) (aVar 3))) (agN 2)))
  (aRet (aLc (aIt (aCB srtW (aCons (aOp ixW (aVar 0) (aD (.str "changes"))) aNil))) (agN 3) (aTest (aOp (inW false) (aVar 3) (aVar 2))) (aVar 3) [3]))))
noncomputable abbrev p5Right (fBrn fTops fLedger : AF) : AS := (aSeq (aAsg (aCall fLedger 2 (aCons (aVar 0) (aCons (aVar 1) aNil))) (agN 3))
  (aSeq (aAsg (aCB reprW (aCons (aVar 3) aNil)) (agN 4))
  (aSeq (aAsg (aLst aNil) (agN 5))
  (aSeq (aFor (aIt (aVar 1)) (agN 6)
    (aAsg (aOp (ra2 addD) (aVar 5) (aOp ixW (aOp ixW (aVar 0) (aD (.str "knows"))) (aVar 6))) (agN 5)))
  (aSeq (aIfS (aTest (aOp (ra2 (eqF true)) (aCB reprW (aCons (aCall fTops 1 (aCons (aVar 3) aNil)) aNil)) (aCB reprW (aCons (aCB tupleW (aCons (aLc (aIt (aVar 1)) (agN 6) (aTest (aOp (inW true) (aVar 6) (aVar 5))) (aVar 6) [6]) aNil)) aNil))))
    (aRet (aD (.bool false)))
    aNext)
  (aSeq (aFor (aIt (aVar 2)) (agN 7)
    (aIfS (aTest (aOp (ra2 (eqF true)) (aCB reprW (aCons (aCall fBrn 2 (aCons (aVar 3) (aCons (aVar 7) aNil))) aNil)) (aCB reprW (aCons (aCB tupleW (aCons (aLc (aIt (aVar 1)) (agN 6) (aTest (aOp (ra2 (eqF false)) (aOp ixW (aVar 6) (aD (.int 1))) (aVar 7))) (aVar 6) [6]) aNil)) aNil))))
    (aRet (aD (.bool false)))
    aNext))
  (aRet (aOp (ra2 (eqF false)) (aCB reprW (aCons (aVar 3) aNil)) (aVar 4)))))))))
noncomputable abbrev p5Law (fRight fPart fDraw fWorld fWords fFeed : AF) : AS := (aSeq (aAsg (aCall fFeed 1 (aCons (aVar 0) aNil)) (agN 1))
  (aSeq (aAsg (aCall fWords 2 (aCons (aVar 1) (aCons (aOp (ra2 addD) (aD (.int 1)) (aCall fDraw 2 (aCons (aVar 1) (aCons (aD (.int 6)) aNil)))) aNil))) (agN 2))
  (aSeq (aAsg (aCall fWorld 3 (aCons (aVar 1) (aCons (aVar 2) (aCons (aCall fDraw 2 (aCons (aVar 1) (aCons (aD (.int 17)) aNil))) aNil)))) (agN 3))
  (aSeq (aAsg (aCB srtW (aCons (aOp ixW (aVar 3) (aD (.str "changes"))) aNil)) (agN 4))
  (aSeq (aAsg (aOp (ra2 addD) (aVar 2) (aLst (aCons (aSl (aOp (ra2 addD) (aOp ixW (aVar 2) (aD (.int 0))) (aD (.str "q"))) (aPart (aUn (ra1 negD) (aD (.int 8)))) aNoP) (aCons (aOp (ra2 addD) (aSl (aOp ixW (aVar 2) (aUn (ra1 negD) (aD (.int 1)))) aNoP (aPart (aUn (ra1 negD) (aD (.int 1))))) (aSl (aD (.str "zz")) (aPart (aOp (ra2 fdivD) (aCB lenW (aCons (aOp ixW (aVar 2) (aUn (ra1 negD) (aD (.int 1)))) aNil)) (aD (.int 8)))) aNoP)) (aCons (aD (.str "a")) aNil))))) (agN 5))
  (aSeq (aAsg (aLstC (aCons (aVar 4) aNil)) (agN 6))
  (aSeq (aFor (aR1 (aCons (aOp (ra2 mulD) (aD (.int 3)) (aCB intW (aCons (aOp (ra2 (eqF true)) (aVar 4) (aLst aNil)) aNil))) aNil)) (agN 7)
    (aDrop (aBM "list" appendW (aVar 6) (aCons (aCall fPart 2 (aCons (aVar 3) (aCons (aLc (aR1 (aCons (aOp (ra2 addD) (aD (.int 1)) (aCall fDraw 2 (aCons (aVar 1) (aCons (aD (.int 3)) aNil)))) aNil)) (agN 8) aYes (aOp ixW (aVar 4) (aCall fDraw 2 (aCons (aVar 1) (aCons (aCB lenW (aCons (aVar 4) aNil)) aNil)))) [8]) aNil))) aNil))))
  (aRet (aOp (ra2 (eqF false)) (aLc (aIt (aOp (ra2 addD) (aVar 6) (aLst (aCons (aLst aNil) (aCons (aVar 4) aNil))))) (agN 9) (aNot (aTest (aCall fRight 3 (aCons (aVar 3) (aCons (aVar 9) (aCons (aVar 5) aNil)))))) (aVar 9) [9]) (aLst aNil))))))))))
end Lw

set_option maxHeartbeats 8000000
set_option synthInstance.maxHeartbeats 2000000
set_option synthInstance.maxSize 100000
/-! L7P: k07: its own defs as abstract programs (generated). -/
namespace Lw
open PySem PySem.Spec PyProof.Rows L2 Mw Aw
noncomputable abbrev p7Names (fDraw : AF) : AS := (aSeq (aAsg (aCB srtW (aCons (aOp ixW (aVar 1) (aD (.str "changes"))) aNil)) (agN 3))
  (aSeq (aAsg (aLstC aNil) (agN 4))
  (aSeq (aFor (aR1 (aCons (aCall fDraw 2 (aCons (aVar 0) (aCons (aD (.int 5)) aNil))) aNil)) (agN 5)
    (aIfS (aAnd (aTest (aOp (ra2 (eqF true)) (aVar 3) (aLst aNil))) (aTest (aOp (ra2 (ordF fGt)) (aCall fDraw 2 (aCons (aVar 0) (aCons (aD (.int 4)) aNil))) (aD (.int 0)))))
    (aDrop (aBM "list" insertW (aVar 4) (aCons (aCall fDraw 2 (aCons (aVar 0) (aCons (aOp (ra2 addD) (aCB lenW (aCons (aVar 4) aNil)) (aD (.int 1))) aNil))) (aCons (aOp ixW (aVar 3) (aCall fDraw 2 (aCons (aVar 0) (aCons (aCB lenW (aCons (aVar 3) aNil)) aNil)))) aNil))))
    (aDrop (aBM "list" appendW (aVar 4) (aCons (aTup (aCons (aOp (ra2 addD) (aD (.int 1)) (aCall fDraw 2 (aCons (aVar 0) (aCons (aD (.int 20)) aNil)))) (aCons (aOp ixW (aVar 2) (aCall fDraw 2 (aCons (aVar 0) (aCons (aCB lenW (aCons (aVar 2) aNil)) aNil)))) aNil))) aNil)))))
  (aSeq (aIfS (aAnd (aTest (aOp (ra2 (eqF true)) (aVar 4) (aLst aNil))) (aTest (aOp (ra2 (eqF false)) (aCall fDraw 2 (aCons (aVar 0) (aCons (aD (.int 3)) aNil))) (aD (.int 0)))))
    (aAsg (aSl (aOp repW (aVar 4) (aD (.int 40))) aNoP (aPart (aOp ixW (aLst (aCons (aOp (ra2 addD) (aCB lenW (aCons (aVar 4) aNil)) (aD (.int 1))) (aCons (aD (.int 40)) aNil))) (aCall fDraw 2 (aCons (aVar 0) (aCons (aD (.int 2)) aNil)))))) (agN 4))
    aNext)
  (aRet (aCB tupleW (aCons (aVar 4) aNil)))))))
noncomputable abbrev p7Due (fLedger : AF) : AS := (aSeq (aLockS (aAsg (aLc (aIt (aOp ixW (aVar 0) (aD (.str "changes")))) (agN 3) (aTest (aOp (inW true) (aVar 3) (aVar 1))) (aVar 3) [3]) (agN 2)))
  (aSeq (aAsg (aLc (aIt (aVar 2)) (agN 3) (aTest (aOp (ra2 (eqF false)) (aLc (aIt (aOp ixW (aOp ixW (aVar 0) (aD (.str "knows"))) (aVar 3))) (agN 4) (aTest (aOp (inW false) (aVar 4) (aVar 1))) (aVar 4) [4]) (aLst aNil))) (aVar 3) [3]) (agN 2))
  (aRet (aCB reprW (aCons (aCall fLedger 2 (aCons (aVar 0) (aCons (aVar 2) aNil))) aNil)))))
noncomputable abbrev p7Law (fWo fDue fNames fLedger fWorld fDraw fWords fFeed : AF) : AS := (aSeq (aAsg (aCall fFeed 1 (aCons (aVar 0) aNil)) (agN 1))
  (aSeq (aAsg (aCall fWords 2 (aCons (aVar 1) (aCons (aOp (ra2 addD) (aD (.int 1)) (aCall fDraw 2 (aCons (aVar 1) (aCons (aD (.int 6)) aNil)))) aNil))) (agN 2))
  (aSeq (aAsg (aCall fWorld 3 (aCons (aVar 1) (aCons (aVar 2) (aCons (aCall fDraw 2 (aCons (aVar 1) (aCons (aD (.int 17)) aNil))) aNil)))) (agN 3))
  (aSeq (aAsg (aCall fLedger 2 (aCons (aVar 3) (aCons (aCB listKW (aCons (aOp ixW (aVar 3) (aD (.str "changes"))) aNil)) aNil))) (agN 4))
  (aSeq (aAsg (aCB reprW (aCons (aVar 4) aNil)) (agN 5))
  (aSeq (aAsg (aLc (aR1 (aCons (aD (.int 4)) aNil)) (agN 7) aYes (aCall fNames 3 (aCons (aVar 1) (aCons (aVar 3) (aCons (aVar 2) aNil)))) [7]) (agN 6))
  (aSeq (aFor (aIt (aOp (ra2 addD) (aVar 6) (aSl (aVar 6) aNoP (aPart (aD (.int 1)))))) (agN 8)
    (aSeq (aAsg (aCall fWo 2 (aCons (aVar 4) (aCons (aVar 8) aNil))) (agN 9))
  (aSeq (aIfS (aTest (aOp (ra2 (eqF true)) (aCB reprW (aCons (aVar 9) aNil)) (aCall fDue 2 (aCons (aVar 3) (aCons (aVar 8) aNil)))))
    (aRet (aD (.bool false)))
    aNext)
  (aIfS (aOr (aTest (aOp (ra2 (eqF true)) (aCB reprW (aCons (aCall fWo 2 (aCons (aVar 9) (aCons (aOp ixW (aVar 6) (aD (.int 0))) aNil))) aNil)) (aCall fDue 2 (aCons (aVar 3) (aCons (aOp (ra2 addD) (aVar 8) (aOp ixW (aVar 6) (aD (.int 0)))) aNil))))) (aTest (aOp (ra2 (eqF true)) (aCB reprW (aCons (aCall fWo 2 (aCons (aVar 9) (aCons (aTup aNil) aNil))) aNil)) (aCB reprW (aCons (aVar 9) aNil)))))
    (aRet (aD (.bool false)))
    aNext))))
  (aRet (aAndV (aOp (ra2 (eqF false)) (aCB reprW (aCons (aCall fWo 2 (aCons (aVar 4) (aCons (aTup aNil) aNil))) aNil)) (aVar 5)) (aOp (ra2 (eqF false)) (aCB reprW (aCons (aVar 4) aNil)) (aVar 5)))))))))))
end Lw

set_option maxHeartbeats 4000000
/-! L7A: the names that k07 asks about. -/
namespace Lw
open PySem PySem.Spec PyProof.Rows L2 Mw Aw
theorem cutL_map {α β : Type} (f : α → β) (l : List α) (lo hi : Option Int) : cutL (l.map f) lo hi = (cutL l lo hi).map f := by
  unfold cutL
  rw [List.length_map, List.map_take, List.map_drop]
theorem cutL_mem {α : Type} {l : List α} {lo hi : Option Int} {x : α} (h : x ∈ cutL l lo hi) : x ∈ l := List.mem_of_mem_drop (List.mem_of_mem_take h)
theorem cutL_len {α : Type} (l : List α) (lo hi : Option Int) : (cutL l lo hi).length ≤ l.length := by
  unfold cutL
  rw [List.length_take, List.length_drop]
  omega
def f7Names : AF := fun ws σ Q _ => ∃ F n cs zs c, ws = [.ref F, .ref n, .d (ssD zs)] ∧ σ[F]? = some c ∧ IsFeed c ∧ Off F n ∧ WdA σ n cs ∧ cs.length ≤ 50 ∧ (∀ m ∈ names cs, Wrd m.2) ∧ 0 < zs.length ∧ zs.length ≤ 6 ∧ (∀ z ∈ zs, Wrd z) ∧
  ∀ (nms : List Nm) (c' : Cell), nms.length ≤ 160 → (∀ m ∈ nms, Wrd m.2) → IsFeed c' → Q (.d (.tuple (nms.map nmD))) (σ.set F c')
instance : MoF f7Names := ⟨fun k ⟨F, n, cs, zs, c, h1, h2, h3, h4, h5, h6, h7, h8, h9, h10, q⟩ => ⟨F, n, cs, zs, c, h1, h2, h3, h4, h5, h6, h7, h8, h9, h10, fun a b c d e => k _ _ (q a b c d e)⟩⟩
end Lw

set_option maxHeartbeats 4000000
/-! L7C: what is left of a ledger where some are left out: pure facts. -/
namespace Lw
open PySem PySem.Spec PyProof.Rows L2 Mw Aw
def dueN (cs : List Ch) (nms : List Nm) : List Nm := ((names cs).filter fun n => !decide (n ∈ nms)).filter fun n => decide (((knOf cs n).filter fun k => decide (k ∈ nms)) = [])

def bad (nms : List Nm) (c : Ch) : Bool := decide (c.nm ∈ nms) || c.kn.any fun k => decide (k ∈ nms)
theorem bad_iff {nms : List Nm} {c : Ch} : bad nms c = true ↔ c.nm ∈ nms ∨ ∃ k ∈ c.kn, k ∈ nms := by
  unfold bad
  rw [Bool.or_eq_true, List.any_eq_true]
  constructor
  · rintro (h | ⟨k, h1, h2⟩)
    · exact .inl (of_decide_eq_true h)
    · exact .inr ⟨k, h1, of_decide_eq_true h2⟩
  · rintro (h | ⟨k, h1, h2⟩)
    · exact .inl (decide_eq_true h)
    · exact .inr ⟨k, h1, decide_eq_true h2⟩
theorem hit_iff {g : List Nm} {c : Ch} : hit g c = true ↔ c.nm ∈ g ∨ ∃ b ∈ c.base, b ∈ g := by
  unfold hit
  rw [Bool.or_eq_true, List.any_eq_true]
  constructor
  · rintro (h | ⟨k, h1, h2⟩)
    · exact .inl (of_decide_eq_true h)
    · obtain ⟨b, h3, h4⟩ := List.mem_map.mp h1
      have h5 : k = true := h2
      rw [h5] at h4
      exact .inr ⟨b, h3, of_decide_eq_true h4⟩
  · rintro (h | ⟨b, h1, h2⟩)
    · exact .inl (decide_eq_true h)
    · exact .inr ⟨true, List.mem_map.mpr ⟨b, h1, decide_eq_true h2⟩, rfl⟩
/-- a part of a world in which what is known stands ahead -/
structure Led (cs M : List Ch) : Prop where
  mem : ∀ c ∈ M, c ∈ cs
  nd : (names M).Nodup
  bef : ∀ (A R : List Ch) (c : Ch), M = A ++ c :: R → ∀ b ∈ c.base, b ∈ names A
theorem wout_eq {ws : List Str} {cs M : List Ch} (w : Wr ws cs) (l : Led cs M) (nms : List Nm) : wout (gather nms) M = M.filter fun c => !bad nms c := by
  have main : ∀ (R A : List Ch) (g : List Nm), M = A ++ R → (∀ c ∈ A, (c.nm ∈ g ↔ bad nms c = true)) → (∀ n, n ∉ names A → (n ∈ g ↔ n ∈ nms)) → wout g R = R.filter fun c => !bad nms c := by
    intro R
    induction R with
    | nil => intro A g _ _ _; rfl
    | cons c r ih =>
      intro A g hM h1 h2
      have hc : c ∈ cs := l.mem c (by rw [hM]; simp)
      have nd := l.nd
      have enm : names M = names A ++ c.nm :: names r := by rw [hM]; simp [names]
      rw [enm] at nd
      have ndA := (List.nodup_append.mp nd).2.2
      have nin : c.nm ∉ names A := fun z => ndA c.nm z c.nm (by simp) rfl
      have hb := l.bef A r c hM
      have heq : hit g c = bad nms c := by
        rw [Bool.eq_iff_iff, hit_iff, bad_iff]
        have inA : ∀ b ∈ c.base, ∃ cb ∈ A, cb.nm = b ∧ knOf cs b = cb.kn := fun b hbb => by
          obtain ⟨cb, hcb, e⟩ := List.mem_map.mp (hb b hbb)
          have hcb' : cb ∈ cs := l.mem cb (by rw [hM]; exact List.mem_append_left _ hcb)
          exact ⟨cb, hcb, e, by rw [← e]; exact knOf_own w hcb'⟩
        constructor
        · rintro (h | ⟨b, hbb, hbg⟩)
          · exact .inl ((h2 c.nm nin).mp h)
          · obtain ⟨cb, hcb, e, ek⟩ := inA b hbb
            rw [← e] at hbg
            rcases bad_iff.mp ((h1 cb hcb).mp hbg) with h | ⟨k, hk, hkn⟩
            · exact .inr ⟨b, base_sub w c hc b hbb, by rw [← e]; exact h⟩
            · exact .inr ⟨k, kn_trans w c hc b (base_sub w c hc b hbb) k (by rw [ek]; exact hk), hkn⟩
        · rintro (h | ⟨k, hk, hkn⟩)
          · exact .inl ((h2 c.nm nin).mpr h)
          · obtain ⟨b, hbb, h⟩ := base_gen w c hc k hk
            obtain ⟨cb, hcb, e, ek⟩ := inA b hbb
            refine .inr ⟨b, hbb, ?_⟩
            rw [← e]
            refine (h1 cb hcb).mpr (bad_iff.mpr ?_)
            rcases h with h | h
            · exact .inl (by rw [e, ← h]; exact hkn)
            · exact .inr ⟨k, by rw [← ek]; exact h, hkn⟩
      have hM' : M = (A ++ [c]) ++ r := by rw [hM, List.append_assoc]; rfl
      have nmA : names (A ++ [c]) = names A ++ [c.nm] := by simp [names]
      cases hbad : bad nms c with
      | true =>
        rw [wout_hit (by rw [heq]; exact hbad), ih (A ++ [c]) (ins g c.nm) hM' (fun d hd => ?_) (fun n hn => ?_)]
        · rw [List.filter_cons, hbad]
          rfl
        · rw [mem_ins]
          rcases List.mem_append.mp hd with h | h
          · have hne : ¬ d.nm = c.nm := fun z => nin (by rw [← z]; exact List.mem_map.mpr ⟨d, h, rfl⟩)
            rw [← h1 d h]
            exact ⟨fun z => z.resolve_right hne, .inl⟩
          · rw [List.mem_singleton.mp h]
            exact ⟨fun _ => hbad, fun _ => .inr rfl⟩
        · rw [nmA, List.mem_append, List.mem_singleton, not_or] at hn
          rw [mem_ins, ← h2 n hn.1]
          exact ⟨fun z => z.resolve_right hn.2, .inl⟩
      | false =>
        rw [wout_no (by rw [heq]; exact hbad), ih (A ++ [c]) g hM' (fun d hd => ?_) (fun n hn => ?_)]
        · rw [List.filter_cons, hbad]
          rfl
        · rcases List.mem_append.mp hd with h | h
          · exact h1 d h
          · rw [List.mem_singleton.mp h, h2 c.nm nin, hbad]
            refine ⟨fun z => ?_, fun z => absurd z (by decide)⟩
            have := bad_iff.mpr (.inl z : c.nm ∈ nms ∨ ∃ k ∈ c.kn, k ∈ nms)
            rw [hbad] at this
            exact this
        · rw [nmA, List.mem_append, List.mem_singleton, not_or] at hn
          exact h2 n hn.1
  exact main M [] (gather nms) rfl (fun c hc => by cases hc) fun n _ => mem_gather
/-! ### ledgers of a world are such -/
theorem led_names {cs : List Ch} (nd : (names cs).Nodup) (p : Nm → Bool) : ∀ l : List Nm, (∀ n ∈ l, n ∈ names cs) → names ((l.filter p).filterMap (findC cs)) = l.filter p
  | [], _ => rfl
  | n :: l, h => by
    obtain ⟨c, hc, _, e⟩ := findC_mem (h n (by simp))
    have ih := led_names nd p l fun m hm => h m (List.mem_cons_of_mem _ hm)
    rw [List.filter_cons]
    split
    · rw [List.filterMap_cons, hc]
      show c.nm :: names _ = _
      rw [ih, e]
    · exact ih
theorem leN_cnt {a b : Nm} (h : leN a b = true) : a.1 ≤ b.1 := by
  rw [leN_eq] at h
  by_cases e : a.1 = b.1
  · omega
  · rw [if_neg e] at h
    have := of_decide_eq_true h
    omega
theorem led_of {ws : List Str} {cs M : List Ch} (w : Wr ws cs) (mem : ∀ c ∈ M, c ∈ cs) (nd : (names M).Nodup) (so : (names M).Pairwise fun a b => leN a b = true) (cl : ∀ c ∈ M, ∀ b ∈ c.base, b ∈ names M) : Led cs M := by
  refine ⟨mem, nd, fun A R c hM b hb => ?_⟩
  have hc : c ∈ M := by rw [hM]; simp
  have lt := cnt_lt w c (mem c hc) b (base_sub w c (mem c hc) b hb)
  have en : names M = names A ++ c.nm :: names R := by rw [hM]; simp [names]
  have hin := cl c hc b hb
  rw [en] at hin so
  rcases List.mem_append.mp hin with h | h
  · exact h
  · rcases List.mem_cons.mp h with h | h
    · rw [h] at lt; omega
    · have h2 := (List.pairwise_append.mp so).2.1
      have h3 := leN_cnt ((List.pairwise_cons.mp h2).1 b h)
      omega
theorem all_names {ws : List Str} {cs : List Ch} (w : Wr ws cs) : names (ledP cs (names cs)) = srt (names cs) := by
  unfold ledP
  rw [led_names (names_nodup w) _ _ fun n hn => mem_srt.mp hn]
  refine List.filter_eq_self.mpr fun n hn => decide_eq_true (mem_srt.mp hn)
theorem led_all {ws : List Str} {cs : List Ch} (w : Wr ws cs) : Led cs (ledP cs (names cs)) := by
  have mem : ∀ c ∈ ledP cs (names cs), c ∈ cs := fun c hc => by
    unfold ledP at hc
    obtain ⟨n, _, hn⟩ := List.mem_filterMap.mp hc
    exact List.mem_of_find?_eq_some hn
  refine led_of w mem ?_ ?_ fun c hc b hb => ?_
  · rw [all_names w]; exact (srt_perm _).nodup_iff.mpr (names_nodup w)
  · rw [all_names w]; exact srt_sorted _
  · rw [all_names w, mem_srt]
    exact kn_sub w c (mem c hc) b (base_sub w c (mem c hc) b hb)
theorem bad_up {ws : List Str} {cs : List Ch} (w : Wr ws cs) {nms : List Nm} {c cb : Ch} (hc : c ∈ cs) (hcb : cb ∈ cs) (hb : cb.nm ∈ c.kn) (h : bad nms cb = true) : bad nms c = true := by
  refine bad_iff.mpr (.inr ?_)
  rcases bad_iff.mp h with h | ⟨k, hk, hkn⟩
  · exact ⟨_, hb, h⟩
  · exact ⟨k, kn_trans w c hc _ hb k (by rw [knOf_own w hcb]; exact hk), hkn⟩
theorem led_filter {ws : List Str} {cs M : List Ch} (w : Wr ws cs) (l : Led cs M) (so : (names M).Pairwise fun a b => leN a b = true) (cl : ∀ c ∈ M, ∀ b ∈ c.base, b ∈ names M) (nms : List Nm) :
    Led cs (M.filter fun c => !bad nms c) ∧ (names (M.filter fun c => !bad nms c)).Pairwise (fun a b => leN a b = true) ∧ ∀ c ∈ M.filter (fun c => !bad nms c), ∀ b ∈ c.base, b ∈ names (M.filter fun c => !bad nms c) := by
  have sub : (names (M.filter fun c => !bad nms c)).Sublist (names M) := (List.filter_sublist).map _
  have so' := so.sublist sub
  have cl' : ∀ c ∈ M.filter (fun c => !bad nms c), ∀ b ∈ c.base, b ∈ names (M.filter fun c => !bad nms c) := fun c hc b hb => by
    obtain ⟨h1, h2⟩ := List.mem_filter.mp hc
    obtain ⟨cb, hcb, e⟩ := List.mem_map.mp (cl c h1 b hb)
    refine List.mem_map.mpr ⟨cb, List.mem_filter.mpr ⟨hcb, ?_⟩, e⟩
    cases hbad : bad nms cb with
    | false => rfl
    | true =>
      have := bad_up w (l.mem c h1) (l.mem cb hcb) (by rw [show cb.nm = b from e]; exact base_sub w c (l.mem c h1) b hb) hbad
      rw [this] at h2
      cases h2
  exact ⟨led_of w (fun c hc => l.mem c (List.mem_filter.mp hc).1) (l.nd.sublist sub) so' cl', so', cl'⟩
theorem bad_nil (c : Ch) : bad [] c = false := by
  cases h : bad [] c with
  | false => rfl
  | true =>
    rcases bad_iff.mp h with h | ⟨k, _, h⟩ <;> cases h
theorem bad_app (n m : List Nm) (c : Ch) : bad (n ++ m) c = (bad n c || bad m c) := by
  rw [Bool.eq_iff_iff, Bool.or_eq_true, bad_iff, bad_iff, bad_iff]
  constructor
  · rintro (h | ⟨k, hk, h⟩)
    · exact (List.mem_append.mp h).imp .inl .inl
    · exact (List.mem_append.mp h).imp (fun z => .inr ⟨k, hk, z⟩) fun z => .inr ⟨k, hk, z⟩
  · rintro ((h | ⟨k, hk, h⟩) | (h | ⟨k, hk, h⟩))
    · exact .inl (List.mem_append_left _ h)
    · exact .inr ⟨k, hk, List.mem_append_left _ h⟩
    · exact .inl (List.mem_append_right _ h)
    · exact .inr ⟨k, hk, List.mem_append_right _ h⟩
theorem mem_dueN {ws : List Str} {cs : List Ch} (w : Wr ws cs) {nms : List Nm} {c : Ch} (hc : c ∈ cs) : c.nm ∈ dueN cs nms ↔ bad nms c = false := by
  unfold dueN
  rw [List.mem_filter, List.mem_filter, knOf_own w hc]
  constructor
  · rintro ⟨⟨_, h1⟩, h2⟩
    cases hb : bad nms c with
    | false => rfl
    | true =>
      rcases bad_iff.mp hb with h | ⟨k, hk, h⟩
      · rw [decide_eq_true h] at h1; cases h1
      · have := of_decide_eq_true h2
        have hm : k ∈ c.kn.filter (fun k => decide (k ∈ nms)) := List.mem_filter.mpr ⟨hk, decide_eq_true h⟩
        rw [this] at hm
        cases hm
  · intro hb
    have nb : ¬ (c.nm ∈ nms ∨ ∃ k ∈ c.kn, k ∈ nms) := fun z => by rw [bad_iff.mpr z] at hb; cases hb
    refine ⟨⟨List.mem_map.mpr ⟨c, hc, rfl⟩, by rw [decide_eq_false fun z => nb (.inl z)]; rfl⟩, decide_eq_true ?_⟩
    exact List.filter_eq_nil_iff.mpr fun k hk z => nb (.inr ⟨k, hk, of_decide_eq_true z⟩)
/-- what is due is what is left -/
theorem due_eq {ws : List Str} {cs : List Ch} (w : Wr ws cs) (nms : List Nm) : ledP cs (dueN cs nms) = (ledP cs (names cs)).filter fun c => !bad nms c := by
  unfold ledP
  have gen : ∀ l : List Nm, (∀ n ∈ l, n ∈ names cs) → (l.filter fun n => decide (n ∈ dueN cs nms)).filterMap (findC cs) = ((l.filter fun n => decide (n ∈ names cs)).filterMap (findC cs)).filter fun c => !bad nms c := by
    intro l
    induction l with
    | nil => intro _; rfl
    | cons n l ih =>
      intro h
      obtain ⟨c, hf, hc, e⟩ := findC_mem (h n (by simp))
      have ih' := ih fun m hm => h m (List.mem_cons_of_mem _ hm)
      have hd := mem_dueN w (nms := nms) hc
      rw [e] at hd
      rw [List.filter_cons, List.filter_cons, decide_eq_true (h n (by simp)), if_pos rfl, List.filterMap_cons, hf]
      show _ = List.filter _ (c :: _)
      rw [List.filter_cons]
      cases hb : bad nms c with
      | false =>
        rw [decide_eq_true (hd.mpr hb), if_pos rfl, List.filterMap_cons, hf]
        show c :: _ = if (!false) = true then _ else _
        rw [ih']
        rfl
      | true =>
        rw [decide_eq_false (fun z => by rw [hd.mp z] at hb; cases hb), if_neg (by decide), ih']
        rfl
  exact gen _ fun n hn => mem_srt.mp hn
theorem ledP_mem {cs : List Ch} {nms : List Nm} {c : Ch} (hc : c ∈ ledP cs nms) : c ∈ cs := by
  unfold ledP at hc
  obtain ⟨n, _, hn⟩ := List.mem_filterMap.mp hc
  exact List.mem_of_find?_eq_some hn
theorem ledP_len (cs : List Ch) (nms : List Nm) : (ledP cs nms).length ≤ cs.length := by
  unfold ledP
  have h1 := List.length_filterMap_le (findC cs) ((srt (names cs)).filter fun n => decide (n ∈ nms))
  have h2 := List.length_filter_le (fun n => decide (n ∈ nms)) (srt (names cs))
  rw [srt_len, List.length_map] at h2
  omega
theorem shw_led {L : List Ch} (h : ∀ c ∈ L, ChOk c) (hl : L.length ≤ 17) : Shw (ledD L) := by
  obtain ⟨a, b, c⟩ := fine_chs h
  have hf : fine (ledD L) = true := by simp only [fine]; exact a
  obtain ⟨s1, s2, s3⟩ := fine_show hf
  refine ⟨s1, s2, by simp only [PyData.depth]; omega, Nat.le_trans s3 ?_⟩
  simp only [wt]
  have : 41002 * L.length ≤ 41002 * 17 := Nat.mul_le_mul_left _ hl
  omega
theorem shw_part {cs L : List Ch} {zs : List Str} (w : Wr zs cs) (ww : ∀ z ∈ zs, Wrd z) (h : cs.length ≤ 17) (hm : ∀ c ∈ L, c ∈ cs) (hl : L.length ≤ 17) : Shw (ledD L) := shw_led (fun c hc => ch_ok w ww h c (hm c hc)) hl
end Lw

set_option maxHeartbeats 4000000
/-! L5A: k05: the program's tops and branches, the law's own parts. -/
namespace Lw
open PySem PySem.Spec PyProof.Rows L2 Mw Aw
theorem mapW {α : Type} (f : α → PyData) (l : List α) : (l.map f).map W.d = l.map fun x => W.d (f x) := by rw [List.map_map]; rfl
def fNof : AF := fun ws σ Q _ => ∃ M, ws = [.d (ledD M)] ∧ M.length ≤ 1000 ∧ Q (.d (.tuple ((names M).map nmD))) σ
instance : MoF fNof := ⟨fun k ⟨M, h1, h2, q⟩ => ⟨M, h1, h2, k _ _ q⟩⟩
/-- the names that no base has -/
def topsP (M : List Ch) : List Nm := (names M).filter fun n => !decide (n ∈ M.flatMap (·.base))
def fTops : AF := fun ws σ Q _ => ∃ M, ws = [.d (ledD M)] ∧ M.length ≤ 100 ∧ (∀ c ∈ M, c.base.length ≤ 100) ∧ Q (.d (.tuple ((topsP M).map nmD))) σ
instance : MoF fTops := ⟨fun k ⟨M, h1, h2, h3, q⟩ => ⟨M, h1, h2, h3, k _ _ q⟩⟩
theorem fold_len : ∀ (l g : List Nm), (l.foldl ins g).length ≤ g.length + l.length
  | [], g => Nat.le_refl _
  | a :: l, g => by
    have h1 := fold_len l (ins g a)
    have h2 := ins_len g a
    rw [List.foldl_cons, List.length_cons]
    omega
def fBrn : AF := fun ws σ Q _ => ∃ M z, ws = [.d (ledD M), .d (.str z)] ∧ M.length ≤ 1000 ∧ Q (.d (.tuple (((names M).filter fun n => decide (n.2 = z)).map nmD))) σ
instance : MoF fBrn := ⟨fun k ⟨M, z, h1, h2, q⟩ => ⟨M, z, h1, h2, k _ _ q⟩⟩
/-! ### parts -/
def partP (cs : List Ch) (nms : List Nm) : List Nm := (srt (names cs)).filter fun m => decide (m ∈ nms ++ nms.flatMap (knOf cs))
def fPart : AF := fun ws σ Q _ => ∃ n cs nms zs, ws = [.ref n, .d (.list (nms.map nmD))] ∧ WdA σ n cs ∧ cs.length ≤ 16 ∧ Wr zs cs ∧ (∀ m ∈ names cs, Wrd m.2) ∧ nms.length ≤ 16 ∧ (∀ m ∈ nms, m ∈ names cs) ∧ Q (.d (.list ((partP cs nms).map nmD))) σ
instance : MoF fPart := ⟨fun k ⟨n, cs, nms, zs, h1, h2, h3, h4, h5, h6, h7, q⟩ => ⟨n, cs, nms, zs, h1, h2, h3, h4, h5, h6, h7, k _ _ q⟩⟩
theorem kn_names {cs : List Ch} {zs : List Str} (w : Wr zs cs) {m k : Nm} (hm : m ∈ names cs) (hk : k ∈ knOf cs m) : k ∈ names cs := by
  obtain ⟨c, hf, hc, _⟩ := findC_mem hm
  rw [knOf_eq hf] at hk
  exact kn_sub w c hc k hk
/-- a row of names with all that they know -/
structure Cls (cs : List Ch) (nms : List Nm) : Prop where
  srt : ∃ p, nms = (srt (names cs)).filter p
  clo : ∀ m ∈ nms, ∀ k ∈ knOf cs m, k ∈ nms
theorem Cls.sub {cs : List Ch} {nms : List Nm} (h : Cls cs nms) : ∀ m ∈ nms, m ∈ names cs := fun m hm => by
  obtain ⟨p, rfl⟩ := h.srt
  exact mem_srt.mp (List.mem_filter.mp hm).1
end Lw

set_option maxHeartbeats 4000000
/-! L8A: what each change knows, as the program reckons it. -/
namespace Lw
open PySem PySem.Spec PyProof.Rows L2 Mw Aw
/-! ### orders -/
theorem lexLe_anti : ∀ {a b : List Nat}, lexLe a b = true → lexLe b a = true → a = b
  | [], [], _, _ => rfl
  | [], _ :: _, _, h => by simp [lexLe] at h
  | _ :: _, [], h, _ => by simp [lexLe] at h
  | x :: a, y :: b, h1, h2 => by
    unfold lexLe at h1 h2
    by_cases e : x = y
    · subst e
      rw [if_pos rfl] at h1 h2
      rw [lexLe_anti h1 h2]
    · rw [if_neg e] at h1
      rw [if_neg (Ne.symm e)] at h2
      have := of_decide_eq_true h1
      have := of_decide_eq_true h2
      omega
/-! ### by name -/
def fBy : AF := fun ws σ Q _ => ∃ M, ws = [.d (ledD M)] ∧ M.length ≤ 1000 ∧ (names M).Nodup ∧ Q (.ref σ.length) (σ ++ [.dct true (kv1 M)])
instance : MoF fBy := ⟨fun k ⟨M, h1, h2, h3, q⟩ => ⟨M, h1, h2, h3, k _ _ q⟩⟩
/-! ### what is known, as gathered -/
abbrev yesD (l : List Nm) : PyData := .dict (l.map fun m => (nmD m, .bool true))
abbrev kvK (G : List (Nm × List Nm)) : List (PyData × W) := G.map fun p => (nmD p.1, .d (yesD p.2))
def look (G : List (Nm × List Nm)) (n : Nm) : List Nm := ((G.find? fun p => decide (p.1 = n)).map (·.2)).getD []
def elb (G : List (Nm × List Nm)) (base : List Nm) : List Nm := (base ++ base.flatMap (look G)).foldl ins []
def kg (G : List (Nm × List Nm)) : List Ch → List (Nm × List Nm)
  | [] => G
  | c :: M => kg (G ++ [(c.nm, elb G c.base)]) M
def fEby : AF := fun ws σ Q _ => ∃ base i G, ws = [.d (.tuple (base.map nmD)), .ref i] ∧ σ[i]? = some (.dct true (kvK G)) ∧ base.length ≤ 50 ∧ (∀ b ∈ base, b ∈ G.map (·.1)) ∧ (∀ b ∈ base, (look G b).length ≤ 50) ∧ Q (.d (yesD (elb G base))) σ
instance : MoF fEby := ⟨fun k ⟨b, i, G, h1, h2, h3, h4, h5, q⟩ => ⟨b, i, G, h1, h2, h3, h4, h5, k _ _ q⟩⟩
end Lw

set_option maxHeartbeats 4000000
/-! L8B: knowledge, ledgers put together. -/
namespace Lw
open PySem PySem.Spec PyProof.Rows L2 Mw Aw
abbrev kgD (G : List (Nm × List Nm)) : PyData := .dict (G.map fun p => (nmD p.1, yesD p.2))
def fKno : AF := fun ws σ Q _ => ∃ zs cs M, ws = [.d (ledD M)] ∧ Wr zs cs ∧ cs.length ≤ 50 ∧ Led cs M ∧ (∀ c ∈ M, c.base.length ≤ 50) ∧ Q (.d (kgD (kg [] M))) σ
instance : MoF fKno := ⟨fun k ⟨z, c, M, h1, h2, h3, h4, h5, q⟩ => ⟨z, c, M, h1, h2, h3, h4, h5, k _ _ q⟩⟩
/-! ### a branch is one row -/
end Lw

set_option maxHeartbeats 4000000
/-! L7B: k07: what is due; the law. -/
namespace Lw
open PySem PySem.Spec PyProof.Rows L2 Mw Aw
def f7Due : AF := fun ws σ Q _ => ∃ n cs nms zs, ws = [.ref n, .d (.tuple (nms.map nmD))] ∧ WdA σ n cs ∧ cs.length ≤ 16 ∧ Wr zs cs ∧ (∀ z ∈ zs, Wrd z) ∧ (∀ m ∈ names cs, Wrd m.2) ∧ (∀ m ∈ nms, Wrd m.2) ∧
  Q (.d (.str (ledD (ledP cs (dueN cs nms))).shown)) σ
instance : MoF f7Due := ⟨fun k ⟨n, cs, nms, zs, h1, h2, h3, h4, h5, h6, h7, q⟩ => ⟨n, cs, nms, zs, h1, h2, h3, h4, h5, h6, h7, k _ _ q⟩⟩
end Lw

set_option maxHeartbeats 4000000
/-! L7D: k07: the law. -/
namespace Lw
open PySem PySem.Spec PyProof.Rows L2 Mw Aw
/-- what is left behind all -/
abbrev lft (cs : List Ch) (nms : List Nm) : List Ch := (ledP cs (names cs)).filter fun c => !bad nms c
structure Facts (cs : List Ch) : Prop where
  a1 : ∀ nms, wout (gather nms) (ledP cs (names cs)) = lft cs nms
  a2 : ∀ nms, ledP cs (dueN cs nms) = lft cs nms
  b1 : ∀ nms t, wout (gather t) (lft cs nms) = lft cs (nms ++ t)
  nil : ∀ nms, lft cs (nms ++ []) = lft cs nms
  all : lft cs [] = ledP cs (names cs)
theorem facts {zs : List Str} {cs : List Ch} (w : Wr zs cs) : Facts cs := by
  have so : (names (ledP cs (names cs))).Pairwise fun a b => leN a b = true := by rw [all_names w]; exact srt_sorted _
  have cl : ∀ c ∈ ledP cs (names cs), ∀ b ∈ c.base, b ∈ names (ledP cs (names cs)) := fun c hc b hb => by
    rw [all_names w, mem_srt]
    exact kn_sub w c (ledP_mem hc) b (base_sub w c (ledP_mem hc) b hb)
  refine ⟨fun nms => wout_eq w (led_all w) nms, fun nms => due_eq w nms, fun nms t => ?_, fun nms => by rw [List.append_nil], ?_⟩
  · rw [wout_eq w (led_filter w (led_all w) so cl nms).1 t]
    unfold lft
    rw [List.filter_filter]
    congr 1
    funext c
    rw [bad_app]
    cases bad nms c <;> cases bad t c <;> rfl
  · unfold lft
    refine List.filter_eq_self.mpr fun c _ => ?_
    rw [bad_nil]
    rfl
abbrev tsD (Ts : List (List Nm)) : List PyData := Ts.map fun t => .tuple (t.map nmD)
theorem r_repr {σ : Sto} {Q : QK} {d : PyData} (h : Shw d) (q : Q (.d (.str d.shown)) σ) : reprW [.d d] σ Q := ⟨_, d, rfl, rfl, h, q⟩
end Lw

set_option maxHeartbeats 4000000
/-! L5B: k05: right of a part; the law. -/
namespace Lw
open PySem PySem.Spec PyProof.Rows L2 Mw Aw
abbrev psD (Ps : List (List Nm)) : List PyData := Ps.map fun t => .list (t.map nmD)
abbrev psW (Ps : List (List Nm)) : List W := Ps.map fun t => .d (.list (t.map nmD))
def f5Right : AF := fun ws σ Q _ => ∃ n cs nms zs ys, ws = [.ref n, .d (.list (nms.map nmD)), .d (ssD ys)] ∧ WdA σ n cs ∧ cs.length ≤ 16 ∧ Wr zs cs ∧ (∀ z ∈ zs, Wrd z) ∧ Cls cs nms ∧ Q (.d (.bool true)) σ
instance : MoF f5Right := ⟨fun k ⟨n, cs, nms, zs, ys, h1, h2, h3, h4, h5, h6, q⟩ => ⟨n, cs, nms, zs, ys, h1, h2, h3, h4, h5, h6, k _ _ q⟩⟩
end Lw

set_option maxHeartbeats 4000000
/-! L8C: in either, joined. -/
namespace Lw
open PySem PySem.Spec PyProof.Rows L2 Mw Aw
theorem r_agT2 {a b : PyData} {i j : Nat} {e : Ev} {σ : Sto} {N : Ev → Sto → Prop} (h : N ((e.set i (some (.d a))).set j (some (.d b))) σ) : agT 2 (agCons (agN i) (agCons (agN j) agNil)) (.d (.tuple [a, b])) e σ N :=
  ⟨[a, b], rfl, rfl, _, _, rfl, _, _, rfl, rfl, h⟩
theorem cut_take {α : Type} (l : List α) (k : Nat) : cutL l none (some (k : Int)) = l.take k := by
  unfold cutL
  rw [HT.sIx_none, HT.sIx_nat, List.drop_zero, Nat.sub_zero]
  by_cases h : k ≤ l.length
  · rw [Nat.min_eq_left h]
  · rw [Nat.min_eq_right (by omega), List.take_of_length_le (Nat.le_refl _), List.take_of_length_le (by omega)]
theorem fm_congr {α β : Type} {f g : α → Option β} : ∀ {l : List α}, (∀ x ∈ l, f x = g x) → l.filterMap f = l.filterMap g
  | [], _ => rfl
  | a :: l, h => by rw [List.filterMap_cons, List.filterMap_cons, h a (by simp), fm_congr (l := l) fun x hx => h x (List.mem_cons_of_mem _ hx)]
/-! ### parts of a world, by any names -/
structure ClP (cs : List Ch) (A : List Nm) : Prop where
  inn : ∀ m ∈ A, m ∈ names cs
  clo : ∀ m ∈ A, ∀ k ∈ knOf cs m, k ∈ A
theorem ClP.app {cs : List Ch} {A B : List Nm} (a : ClP cs A) (b : ClP cs B) : ClP cs (A ++ B) :=
  ⟨fun m hm => (List.mem_append.mp hm).elim (a.inn m) (b.inn m), fun m hm k hk => (List.mem_append.mp hm).elim (fun h => List.mem_append_left _ (a.clo m h k hk)) fun h => List.mem_append_right _ (b.clo m h k hk)⟩
theorem ClP.nil (cs : List Ch) : ClP cs [] := ⟨(fun m hm => by cases hm), (fun m hm => by cases hm)⟩
def fEin : AF := fun ws σ Q _ => ∃ cs A B, ws = [.d (ledD (ledP cs A)), .d (ledD (ledP cs B))] ∧ (names cs).Nodup ∧ cs.length ≤ 50 ∧ Q (.d (ledD (ledP cs (A ++ B)))) σ
instance : MoF fEin := ⟨fun k ⟨c, A, B, h1, h2, h3, q⟩ => ⟨c, A, B, h1, h2, h3, k _ _ q⟩⟩
abbrev eiU (M N : List Ch) : List Ch := N ++ M.filter fun c => !decide (c.nm ∈ names N)
def fJoi : AF := fun ws σ Q _ => ∃ zs cs A B, ws = [.d (ledD (ledP cs A)), .d (ledD (ledP cs B))] ∧ Wr zs cs ∧ (∀ z ∈ zs, Wrd z) ∧ cs.length ≤ 16 ∧ ClP cs A ∧ ClP cs B ∧ Q (.d (ledD (ledP cs (A ++ B)))) σ
instance : MoF fJoi := ⟨fun k ⟨z, c, A, B, h1, h2, h3, h4, h5, h6, q⟩ => ⟨z, c, A, B, h1, h2, h3, h4, h5, h6, k _ _ q⟩⟩
end Lw

set_option maxHeartbeats 4000000
/-! MwI1: t.index(x), l.remove(x), by data. -/
namespace Mw
open PySem PySem.Spec PyProof.Rows L2
section
variable {X : Cx} {K : PySem.W.Frag}
/-- the first place of an equal one -/
def Fst (ds : List PyData) (d : PyData) (j : Nat) : Prop := (∃ z, ds[j]? = some z ∧ PyData.eqv z d = true) ∧ ∀ (m : Nat) (z' : PyData), m < j → ds[m]? = some z' → PyData.eqv z' d = false
def rIdxT (K : PySem.W.Frag) : V → List V → Hp → VK → Prop := fun x xs H Q => ∃ (a : Addr) (y : V) (d : PyData) (ds : List PyData) (j : Nat), x = V.ref a ∧ xs = [y] ∧ Dp K H (V.ref a) (.tuple ds) ∧ Dp K H y d ∧ SeqAt.shaped (.tuple ds) = true ∧ SeqAt.shaped d = true ∧ Fst ds d j ∧ Q (.int (j : Nat)) H
theorem at_read {s : Shared} {its : List Value} {ds : List PyData} (hmap : its.map (SeqAt.readOf s.heap) = ds) : ∀ (m : Nat) (hm : m < its.toArray.size) (z : PyData), ds[m]? = some z → SeqAt.readOf s.heap its.toArray[m] = z := fun m hm z hz => by
  have hml : m < its.length := by simpa using hm
  rw [← hmap, List.getElem?_map, List.getElem?_eq_getElem hml] at hz
  simpa using Option.some.inj (show some (SeqAt.readOf s.heap its[m]) = some z from hz)
theorem mt_idxT (hK : X.K = K) (hu : X.A.units + 65 < cLine) : MtR X "tuple.index" (rIdxT K) := by
  subst hK
  intro pins s σ H x xs v us Q I rx rxs h
  obtain ⟨a, y, d, ds, j, rfl, rfl, hl, hy, sl, sd, ⟨⟨z, hz, hzj⟩, hno⟩, q⟩ := h
  cases rx
  obtain ⟨uy, rfl, ry⟩ := rxs.one
  obtain ⟨bs, r1⟩ := Dp.reads I d y uy hy ry
  have hxs : PyData.canLayAll0 ds = true := SeqAt.canLay_of_shaped sl
  have hroom : X.A.units + 1 + min (PyData.depthAll ds) d.depth < cLine := room_in_shaped sd hu
  cases hl with
  | tup hs ha =>
    obtain ⟨its, rv, pl, hlen⟩ := I.tuple hs
    obtain ⟨⟨cls, dd, dt, sls⟩, ho, hc, n, hdt⟩ := pl
    simp only at hc hdt
    subst hc hdt
    obtain ⟨as, h4⟩ := Dp.readsAll I ds _ its ha rv
    have hn : its.length = ds.length := SeqAt.ReadsAll.length ds its as h4
    have hmap : its.map (SeqAt.readOf s.heap) = ds := SeqAt.readsAll_map ds its as hxs h4
    have hjl : j < its.length := by have := (List.getElem?_eq_some_iff.mp hz).1; omega
    have hj : j < its.toArray.size := by simpa using hjl
    refine call_meets PySem.F.slot_tuple_index ⟨_, ho, rfl⟩ PySem.F.entry_tuple_index (PySem.F.args_tuple_index_2 _ _)
      (TI.tuple_indexAt a its.toArray n dd sls uy (fun u => PyData.eqv (SeqAt.readOf s.heap u) d) j hj ?_ ?_) ⟨ho, SeqAt.items_eqAt (vs := its.toArray) (show ReadsAll s.heap its.toArray.toList ds as from h4) r1 hxs (SeqAt.canLay_of_shaped sd) hroom, ?_⟩
    · show PyData.eqv (SeqAt.readOf s.heap its.toArray[j]) d = true
      rw [at_read hmap j hj z hz]
      exact hzj
    · intro m hm hmj
      have hz' : ds[m]? = some ds[m] := List.getElem?_eq_getElem (by omega)
      show PyData.eqv (SeqAt.readOf s.heap its.toArray[m]) d = false
      rw [at_read hmap m hm _ hz']
      exact hno m _ hmj hz'
    · exact ⟨.int (j : Nat), H, I.tok _, ⟨_, rfl⟩, q⟩
def rRemD (K : PySem.W.Frag) : V → List V → Hp → VK → Prop := fun x xs H Q => ∃ (a : Addr) (ys : List V) (y : V) (d : PyData) (ds : List PyData) (j : Nat), x = V.ref a ∧ xs = [y] ∧ H a = some (.lst ys) ∧ DpAll K H ys ds ∧ Dp K H y d ∧ SeqAt.shaped (.list ds) = true ∧ SeqAt.shaped d = true ∧ Fst ds d j ∧ Q .non (upd H a (.lst (ys.eraseIdx j)))
theorem mt_remD (hK : X.K = K) (hu : X.A.units + 65 < cLine) : MtR X "list.remove" (rRemD K) := by
  subst hK
  intro pins s σ H x xs v us Q I rx rxs h
  obtain ⟨a, ys, y, d, ds, j, rfl, rfl, hH, ha, hy, sl, sd, ⟨⟨z, hz, hzj⟩, hno⟩, q⟩ := h
  cases rx
  obtain ⟨uy, rfl, ry⟩ := rxs.one
  obtain ⟨bs, r1⟩ := Dp.reads I d y uy hy ry
  have hxs : PyData.canLayAll0 ds = true := SeqAt.canLay_of_shaped sl
  have hroom : X.A.units + 1 + min (PyData.depthAll ds) d.depth < cLine := room_in_shaped sd hu
  obtain ⟨zz, its, n, r, hl, e⟩ := I.lstM hH
  obtain ⟨as, h4⟩ := Dp.readsAll I ds _ its ha r
  have hn : its.length = ds.length := SeqAt.ReadsAll.length ds its as h4
  have hmap : its.map (SeqAt.readOf s.heap) = ds := SeqAt.readsAll_map ds its as hxs h4
  have hjl : j < its.length := by have := (List.getElem?_eq_some_iff.mp hz).1; omega
  have hj : j < its.toArray.size := by simpa using hjl
  refine call_meets PySem.F.slot_list_remove ⟨_, e, rfl⟩ PySem.F.entry_list_remove (PySem.F.args_list_remove_2 _ _)
    (SeqAt.list_removeAt a its.toArray n none #[] uy (fun u => PyData.eqv (SeqAt.readOf s.heap u) d) j hj ?_ ?_ (by rw [List.size_toArray]; omega)) ⟨e, SeqAt.items_eqAt (vs := its.toArray) (show ReadsAll s.heap its.toArray.toList ds as from h4) r1 hxs (SeqAt.canLay_of_shaped sd) hroom, ?_⟩
  · show PyData.eqv (SeqAt.readOf s.heap its.toArray[j]) d = true
    rw [at_read hmap j hj z hz]
    exact hzj
  · intro m hm hmj
    have hz' : ds[m]? = some ds[m] := List.getElem?_eq_getElem (by omega)
    show PyData.eqv (SeqAt.readOf s.heap its.toArray[m]) d = false
    rw [at_read hmap m hm _ hz']
    exact hno m _ hmj hz'
  · refine ⟨.non, _, I.lset (its' := its.eraseIdx j) (t' := s.toks) hH e ?_ (r.eraseIdx j) ?_, rfl, q⟩
    · exact List.eraseIdxIfInBounds_toArray ..
    · rw [List.length_eraseIdx]; split <;> omega
/-- l[i:j] = another list -/
def sSlSet (td : TE) (tl th : TO) (tv : TE) : TS := fun D σ H => tv σ H fun v H1 => td σ H1 fun x H2 => tl σ H2 fun l H3 => th σ H3 fun u H4 => ∃ (a b : Addr) (xs ys : List V) (i j : Int), x = .ref a ∧ v = .ref b ∧ l = some i ∧ u = some j ∧ H4 a = some (.lst xs) ∧ H4 b = some (.lst ys) ∧ a ≠ b ∧ 0 ≤ i ∧ i ≤ j ∧ j ≤ xs.length ∧
  xs.length + ys.length ≤ sizeLine ∧ D.nx σ (upd H4 a (.lst (xs.take i.toNat ++ ys ++ xs.drop j.toNat)))
theorem ps_slset {o value : Expr} {lo hi : Option Expr} {td tv : TE} {tl th : TO} {p2 pos' pos : Pos} (ho : PE X o td) (hl : PO X lo tl) (hh : PO X hi th) (hv : PE X value tv) (hs : swapsWith value (some (.Subscript o (.Slice lo hi none p2) pos')) pos.line X.env = pure false) :
    PS X (.Assign [.Subscript o (.Slice lo hi none p2) pos'] value pos) (sSlSet td tl th tv) := by
  refine ⟨fun pins s σ H D I h => ?_⟩
  refine wpAny_Assign_Subscript (thn (hv.run pins s σ H _ I h) fun r s1 ⟨v, H1, I1, rv, q1⟩ => thn (ho.run pins s1 σ H1 _ I1 q1) fun u s2 ⟨x, H2, I2, rx, q2⟩ =>
    wpAny_Slice (thn (hl.run pins s2 σ H2 _ I2 q2) fun vl s3 ⟨l, H3, I3, pl, q3⟩ => thn (hh.run pins s3 σ H3 _ I3 q3) fun vu s4 ⟨w, H4, I4, pu, a, b, xs, ys, i, j, ex, ev, ei, ew, ha, hb, hne, h0, hij, hj, hz, q4⟩ => ?_)) hs
  subst ex ev ei ew
  obtain rfl : u = Value.ref a := rx
  obtain rfl : r = Value.ref b := rv
  rw [evalPart_none]
  refine wpAny_pure ?_
  have I5 : Inv X pins σ H4 { s4 with heap := s4.heap.push { cls := .type "slice", data := .fields #[vl, vu, .none] } } := I4.kept (t' := s4.toks) fun c ob q => Heap.get?_push_of_some _ q
  cases pl with
  | int i t =>
    cases pu with
    | int j t' => exact set_slice I5 ha hb hne (Heap.IsSliceOf.new ..) ⟨t, rfl⟩ ⟨t', rfl⟩ h0 hij hj hz fun s6 I6 => ⟨σ, _, I6, q4⟩
end
end Mw

/-! MwU: tuple(d.values()), the keys of d tuples. -/
namespace Mw
open PySem PySem.Spec PyProof.Rows L2 PySem.W
section
variable {P : Program} {w : World} {A : Around} {E : Value → Shared → Prop} {s : Shared} {r d : Addr} {n : Nat} {Pv : Nat → Value → Prop} {OK : Heap → Prop}
theorem collect_src {T : String} {R : List Value → Shared → Prop} (K : KdlSrc P w T r d n Pv OK) (hh : A.handled = none) (hok : OK s.heap) (hn : n ≤ sizeLine)
    (h : ∀ (h' : Heap) (tk : Tok) (acc : Array Value), (∀ b o, s.heap.get? b = some o → h'.get? b = some o) → ItemsOf Pv acc n → R acc.toList { s with heap := h', toks := tk }) : wpAny (model P w) A (collect (.ref r)) R E s := by
  have hlt := K.there _ hok
  unfold collect
  refine wpAny_bind (wpAny_runValue (codeAny_builtin F.entry_proto_collect ?_))
  rw [Around.under_plainId F.plain_proto_collect _]
  show wpAny _ A.in1 (newList [] >>= fun l => again (.builtin "list.__iadd__" ⟨[l, .ref r], []⟩)) _ _ s
  refine wpAny_bind (wpAny_newObj_type ?_)
  refine wpAny_pure ⟨plainId_quiet F.plain_list_iadd _, codeAny_builtin F.entry_list_iadd ?_⟩
  rw [Around.under_plainId F.plain_list_iadd _]
  have hS : (s.heap.push { cls := .type "list", data := .seq ([] : List Value).toArray }).get? s.heap.objs.size = some { cls := .type "list", data := .seq #[] } := Heap.get?_push_size _ rfl
  have key := kdl_extend (A := A) (s := { s with heap := s.heap.push { cls := .type "list", data := .seq ([] : List Value).toArray } }) (R := fun rr s' => rr = .ok (.ret (.ref s.heap.objs.size)) ∧ ∃ acc c, s'.heap.get? s.heap.objs.size = some { cls := .type "list", dict := none, data := .seq acc c, slots := #[] } ∧ R acc.toList s') K hh (K.keep _ _ hok fun b _ o e => Heap.get?_push_of_some _ e) s.heap.objs.size (Nat.ne_of_gt hlt.1) (Nat.ne_of_gt hlt.2) (.ref s.heap.objs.size) 0 hS (fun h' tk acc c hk hS' hacc => ⟨rfl, acc, c, hS', h h' tk acc (fun b o e => hk b o (Nat.ne_of_lt (Heap.lt_size e)) (Heap.get?_push_of_some _ e)) hacc⟩) hn
  refine wpAny_mono key (fun f s' z => ?_) (fun e s' z => by obtain ⟨z, _⟩ := z; cases z)
  cases f with
  | done f =>
    obtain ⟨z, acc, c, h1, h2⟩ := (show (Except.ok f : Result) = .ok (.ret (.ref s.heap.objs.size)) ∧ _ from z)
    cases z
    show wpAny _ A (load s.heap.objs.size >>= _) _ _ _
    exact wpAny_bind (wpAny_load h1 (wpAny_pure h2))
  | again c' =>
    refine ⟨z.1, codeAny_mono z.2 fun rr s'' hr => ?_⟩
    obtain ⟨rfl, acc, c, h1, h2⟩ := hr
    show wpAny _ A (load s.heap.objs.size >>= _) _ _ _
    exact wpAny_bind (wpAny_load h1 (wpAny_pure h2))
theorem call_tuple_src {Q : Value → Shared → Prop} (K : KdlSrc P w "dict_values" r d n Pv OK) (hh : A.handled = none) (hok : OK s.heap) (hn : n ≤ sizeLine)
    (h : ∀ (h' : Heap) (tk : Tok) (acc : Array Value), (∀ b o, s.heap.get? b = some o → h'.get? b = some o) → ItemsOf Pv acc n → Q (.ref h'.objs.size) { s with heap := h'.push { cls := .type "tuple", data := .seq acc }, toks := tk }) :
    wpAny (model P w) A (call (.type "tuple") [.ref r]) Q E s := by
  refine callType_codes (Q₁ := fun obj s₁ => s₁.TypeIs obj "tuple" ∧ Q obj s₁) F.called_tuple (F.typeCall_tuple_1 _) F.entry_object_init ?_ fun obj s₁ h₁ =>
    ⟨h₁.1, F.args_object_init_2 obj _, object_init_meets F.called_tuple.init.lookup F.called_tuple.made (by decide) P w A.in1 _ s₁ ⟨h₁.1, rfl, h₁.2⟩⟩
  refine codeAny_of_tree ?_
  show wpAny _ A.in1.in1 (do checkBuiltinCall "tuple.__new__" ⟨[.type "tuple", .ref r], []⟩; again (.builtin "tuple.__new__" ⟨[.type "tuple", .ref r], []⟩)) _ _ s
  refine wpAny_bind (wpAny_of_eq (F.newCall_tuple_1 _) (wpAny_pure ⟨plainId_quiet F.plain_tuple_new _, codeAny_builtin F.entry_tuple_new ?_⟩))
  rw [Around.under_plainId F.plain_tuple_new _]
  have hsub := sub_tuple_self
  have hinit := init_tuple_lookup
  have hmh := madeHere_tuple
  have hTI : s.TypeIs (.ref r) "dict_values" := K.type s hok
  wp_walk using wpAny_typeOf hTI, collect_src (A := A.in1.in1) K hh hok hn
  intro h' tk acc kp hacc
  show wpAny _ _ (Builtin.Tuple.tupleExact acc.toList.toArray >>= fun v => ret v) _ _ _
  unfold Builtin.Tuple.tupleExact
  refine wpAny_bind (wpAny_newObj_type ?_ (by show acc.toList.toArray.size ≤ sizeLine; simp only [Array.toArray_toList]; rw [hacc.1]; exact hn))
  refine wpAny_pure ?_
  have e : acc.toList.toArray = acc := by simp
  rw [e]
  exact ⟨⟨_, Heap.get?_push_size _ rfl, rfl⟩, h h' tk acc kp hacc⟩
end
section
variable {X : Cx} {o : Expr} {p pos apos mpos : Pos} {td : TE}
theorem kt_vals {H : Hp} : ∀ {kvs : List (List Key × V)} {xs : List (List Key × Addr × Value)}, KT H kvs xs → Vals (kvs.map (·.2)) (xs.map fun x => x.2.2)
  | _, _, .nil => .nil
  | _, _, .cons h t => .cons h.2.2 (kt_vals t)
def tTupVals (td : TE) : TE := fun σ H Q => td σ H fun x H1 => ∃ (a : Addr) (kvs : List (List Key × V)), x = .ref a ∧ H1 a = some (.dT kvs) ∧ LayT H1 (kvs.map (·.2)) Q
theorem pe_tupVals (hc : X.calm = true) (hg : Gl X "tuple") (hm : X.mg "tuple" = none) (hd : PE X o td) (hbase : attributeBase o "values" X.env (eval o X.env) = eval o X.env := by rfl) (hline : (apos.endLine == mpos.line) = true := by rfl)
    (hse : starEach [Expr.Call (.Attribute o "values" apos) [] [] mpos] X.env = [(false, eval (Expr.Call (.Attribute o "values" apos) [] [] mpos) X.env)] := by rfl) :
    PE X (.Call (.Name "tuple" p) [.Call (.Attribute o "values" apos) [] [] mpos] [] pos) (tTupVals td) := by
  refine ⟨fun pins s σ H Q I h => ?_⟩
  refine wpAny_Call_Name_kw (ld_blt I hg hm (show bootBuiltins "tuple" = some (.type "tuple") by decide +kernel) ?_)
  refine PyProof.Rows.callWith_type1 ?_ hse rfl
  rw [hse]
  show wpAny _ _ (spliced ((false, eval (Expr.Call (.Attribute o "values" apos) [] [] mpos) X.env) :: backTo pos (starEach [] X.env))) _ _ s
  refine Calls.spliced_cons (wpAny_Call_method0_late hbase hline (thn (hd.run pins s σ H _ I h) fun v s1 ⟨x, H1, I1, r1, a, kvs, ex, ha, q⟩ => ?_))
  subst ex
  obtain rfl : v = Value.ref a := r1
  obtain ⟨hz, hsys, xs, rel, ob, es, ep, ho, hx, hdat, hes, his, hnd⟩ := dt_of I1.hok ha
  have raw : s1.heap.DictRaw a es ep := ⟨ob, ho, hx, hdat⟩
  refine ⟨"dict", "dict.values", F.plainAttrs_dict, F.slot_dict_values, F.type_dict_values, ⟨ob, ho, hx.1⟩, fun b e => ?_, Calls.callWith_builtin rfl (PySem.evalArgs_none ?_)⟩
  · cases e
    exact ⟨ob, ho, hx.2.1⟩
  refine call_meetsIn F.slot_dict_values ⟨ob, ho, hx.1⟩ F.entry_dict_values (F.args_dict_values_1 _) (meets_dict_values_raw a hsys) ⟨⟨es, ep, raw⟩, ?_⟩
  refine Calls.spliced_nil ?_
  have k1 : ∀ b u, s1.heap.get? b = some u → (s1.heap.push { cls := .type "dict_values", data := .fields #[.ref a] }).get? b = some u := fun b u e => Heap.get?_push_of_some _ e
  have hl : xs.length = es.size := by
    have := congrArg List.length hes
    simpa using this.symm
  have hlk : kvs.length = xs.length := by
    have := (kt_vals rel).length
    simpa using this
  refine call_tuple_src (KdlSrc.rawValues (r := s1.heap.objs.size) (d := a) (es := es) (ep := ep)) (I.ok.hd hc) ⟨⟨_, Heap.get?_push_size _ rfl, rfl, rfl⟩, raw.push _⟩ (by omega) fun h' tk acc kp hacc => ?_
  have I2 : Inv X pins σ H1 { s1 with heap := h', toks := tk } := I1.kept (t' := tk) fun b u e => kp b u (k1 b u e)
  have hv : Vals (kvs.map (·.2)) acc.toList := by
    have e : acc.toList = xs.map fun x => x.2.2 := by
      refine List.ext_getElem? fun i => ?_
      by_cases hi : i < acc.size
      · obtain ⟨hi2, e1⟩ := hacc.2 i acc[i] (Array.getElem?_eq_getElem hi)
        have e2 : es.toList[i]? = some es[i] := by rw [Array.getElem?_toList, Array.getElem?_eq_getElem hi2]
        rw [hes, List.getElem?_map] at e2
        obtain ⟨x, hx1, hx2⟩ := Option.map_eq_some_iff.mp e2
        rw [Array.getElem?_toList, Array.getElem?_eq_getElem hi, List.getElem?_map, hx1, e1, ← hx2]
        rfl
      · have e3 : xs.length ≤ i := by rw [hl, ← hacc.1]; omega
        rw [List.getElem?_eq_none (by simpa using hi), List.getElem?_eq_none (by simpa using e3)]
    rw [e]
    exact kt_vals rel
  have z := lay_tup (t' := tk) I2 hv (by rw [List.length_map]; exact hz) q
  rw [Array.toArray_toList] at z
  exact z
end
end Mw

set_option maxHeartbeats 4000000
/-! AwI: l.remove(x), is True, min of two numbers, tuple(d.values()). -/
namespace Aw
open PySem PySem.Spec PyProof.Rows L2 Mw
variable {Z : Zx} {X : Cx} {E : L2.St → XK} {ta : TE} {fa : AE}
/-! ### remove -/
def remW : W → List W → Sto → QK → Prop := fun a ws σ Q => ∃ j ys ds d i, a = .ref j ∧ ws = [.d d] ∧ σ[j]? = some (.lst ys) ∧ pures ys = some ds ∧ SeqAt.shaped (.list ds) = true ∧ SeqAt.shaped d = true ∧ Fst ds d i ∧ Q (.d .none) (σ.set j (.lst (ys.eraseIdx i)))
instance sim_rem : SimM Z (rRemD Z.K) remW := ⟨fun {ρ σ H x a xs ws Qa Q} rl va vs q kq => by
  obtain ⟨j, ys, ds, d, i, rfl, rfl, hc, hp, h1, h2, hf, q⟩ := q
  obtain ⟨ad, ha, rfl⟩ := va
  obtain ⟨v, rfl, vw⟩ := wrs1 vs
  obtain ⟨zs, e1, e2⟩ := rl.cell j ad _ ha hc
  have gp : Go Z.T ρ H ρ (upd H ad (.lst (zs.eraseIdx i))) := Go.put (List.mem_of_getElem? ha) e1
  have lay : PyData.canLayAll0 ds = true := by
    have := sh_lay h1
    simpa [PyData.canLay0] using this
  refine ⟨ad, zs, v, d, ds, i, rfl, rfl, e1, (pures_rp e2 hp).dp lay, (Rp.tp vw).dp (sh_lay h2), h1, h2, hf, ?_⟩
  exact kq.d gp (rl.put (c := .lst (ys.eraseIdx i)) ha ⟨_, upd_same, gp.wrs rl (paired_er i e2)⟩) Rp.non q⟩
instance : MoM remW := ⟨fun k ⟨j, ys, ds, d, i, h1, h2, h3, h4, h5, h6, h7, q⟩ => ⟨j, ys, ds, d, i, h1, h2, h3, h4, h5, h6, h7, k _ _ q⟩⟩
theorem r_rem {σ : Sto} {j i : Nat} {ys : List W} {ds : List PyData} {d : PyData} {Q : QK} (hc : σ[j]? = some (.lst ys)) (hp : pures ys = some ds) (h1 : SeqAt.shaped (.list ds) = true) (h2 : SeqAt.shaped d = true) (hf : Fst ds d i) (h : Q (.d .none) (σ.set j (.lst (ys.eraseIdx i)))) :
    remW (.ref j) [.d d] σ Q := ⟨j, ys, ds, d, i, rfl, rfl, hc, hp, h1, h2, hf, h⟩
/-! ### is True, is not True -/
def tIsB (b : Bool) (ta : TE) : TE := fun σ H Q => ta σ H fun x H1 => ∃ c, x = .bl c ∧ Q (.bl (c == b)) H1
def tNoB (b : Bool) (ta : TE) : TE := fun σ H Q => ta σ H fun x H1 => ∃ c, x = .bl c ∧ Q (.bl (c != b)) H1
theorem pc_isB {a : Expr} {b : Bool} {j pos'} (ha : PE X a ta) : PC X .Is a (.Constant (.bool b) j pos') (tIsB b ta) := by
  refine ⟨fun pins s σ H Q I h => ?_⟩
  refine thn (ha.run pins s σ H _ I h) fun v s1 ⟨x, H1, I1, r1, c, ex, q1⟩ => ?_
  subst ex
  cases r1
  exact Constant_bool (is_bool ⟨.bl _, H1, I1, rfl, q1⟩)
theorem pc_noB {a : Expr} {b : Bool} {j pos'} (ha : PE X a ta) : PC X .IsNot a (.Constant (.bool b) j pos') (tNoB b ta) := by
  refine ⟨fun pins s σ H Q I h => ?_⟩
  refine thn (ha.run pins s σ H _ I h) fun v s1 ⟨x, H1, I1, r1, c, ex, q1⟩ => ?_
  subst ex
  cases r1
  exact Constant_bool (isnot_bool ⟨.bl _, H1, I1, rfl, q1⟩)
def aIsB (b : Bool) (fa : AE) : AE := fun e σ Q X => fa e σ (fun x σ1 => ∃ c, x = .d (.bool c) ∧ Q (.d (.bool (c == b))) σ1) X
def aNoB (b : Bool) (fa : AE) : AE := fun e σ Q X => fa e σ (fun x σ1 => ∃ c, x = .d (.bool c) ∧ Q (.d (.bool (c != b))) σ1) X
instance sim_isB {b : Bool} [ia : SimE Z E ta fa] : SimE Z E (tIsB b ta) (aIsB b fa) := ⟨fun r er h k kx =>
  ia.sim r er h (fun _ _ _ _ _ g1 r1 v1 ⟨c, e, h1⟩ => by subst e; exact ⟨c, WR.bool v1, k.d g1 r1 (Rp.bl _) h1⟩) kx⟩
instance sim_noB {b : Bool} [ia : SimE Z E ta fa] : SimE Z E (tNoB b ta) (aNoB b fa) := ⟨fun r er h k kx =>
  ia.sim r er h (fun _ _ _ _ _ g1 r1 v1 ⟨c, e, h1⟩ => by subst e; exact ⟨c, WR.bool v1, k.d g1 r1 (Rp.bl _) h1⟩) kx⟩
instance {b : Bool} [MoE fa] : MoE (aIsB b fa) := ⟨fun k q => MoE.mo (f := fa) (fun _ _ ⟨c, e, q⟩ => ⟨c, e, k _ _ q⟩) q⟩
instance {b : Bool} [MoE fa] : MoE (aNoB b fa) := ⟨fun k q => MoE.mo (f := fa) (fun _ _ ⟨c, e, q⟩ => ⟨c, e, k _ _ q⟩) q⟩
/-! ### min of two -/
def rMin2 : List V → Hp → VK → Prop := fun xs H Q => ∃ i j, xs = [.int i, .int j] ∧ Q (.int (if j < i then j else i)) H
theorem call_min2A (hc : X.calm = true) : CallR X (.builtin "min") rMin2 := call_min2 hc
theorem boot_minA : bootBuiltins "min" = some (.builtin "min") := by first | rfl | decide +kernel
def min2W : List W → Sto → QK → Prop := fun ws σ Q => ∃ i j : Int, ws = [.d (.int i), .d (.int j)] ∧ Q (.d (.int (if j < i then j else i))) σ
instance sim_min2 : SimC Z rMin2 min2W := ⟨fun {ρ σ H xs ws Qa Q} rl v q kq => by
  obtain ⟨i, j, rfl, q⟩ := q
  cases v with
  | cons v1 v2 =>
    cases v2 with
    | cons v2 v3 =>
      cases v3
      rw [WR.int v1, WR.int v2]
      exact ⟨i, j, rfl, kq.d .refl rl (Rp.int _) q⟩⟩
instance : MoC min2W := ⟨fun k ⟨i, j, e, q⟩ => ⟨i, j, e, k _ _ q⟩⟩
/-! ### tuple(d.values()) -/
def aTupVals (fa : AE) : AE := fun e σ Q X => fa e σ (fun x σ1 => ∃ i kvs ds, x = .ref i ∧ σ1[i]? = some (.dct true kvs) ∧ pures (kvs.map (·.2)) = some ds ∧ Q (.d (.tuple ds)) σ1) X
theorem prs_vals {κ : Type} {f : κ → PyData} {K : PySem.W.Frag} {ρ : List Addr} {H : Hp} : ∀ {hk : List (κ × V)} {kvs : List (PyData × W)}, PRs K ρ H (hk.map fun p => (f p.1, p.2)) kvs → WRs K ρ H (hk.map (·.2)) (kvs.map (·.2))
  | [], _, h => by cases h; exact .nil
  | p :: hk, _, h => by
    cases h with
    | cons h t => exact .cons h.2 (prs_vals t)
instance sim_tupVals [ia : SimE Z E ta fa] : SimE Z E (tTupVals ta) (aTupVals fa) := ⟨fun r er h k kx =>
  ia.sim r er h (fun _ _ _ _ _ g1 r1 v1 ⟨i, kvs, ds, e, hc, hp, q⟩ => by
    subst e
    obtain ⟨a, ha, rfl⟩ := v1
    obtain ⟨hk, e1, e2⟩ := r1.cell i a _ ha hc
    exact ⟨a, hk, rfl, e1, (k.go g1).layT r1 (pures_rp (prs_vals e2) hp) q⟩) kx⟩
instance [MoE fa] : MoE (aTupVals fa) := ⟨fun k q => MoE.mo (f := fa) (fun _ _ ⟨i, kvs, ds, e, hc, hp, q⟩ => ⟨i, kvs, ds, e, hc, hp, k _ _ q⟩) q⟩
end Aw

/-! MwN2: sorted(l), l a list of names. -/
namespace Mw
open PySem PySem.Spec PyProof.Rows L2
section
variable {X : Cx} {K : PySem.W.Frag}
def rSortLN (K : PySem.W.Frag) : List V → Hp → VK → Prop := fun xs H Q => ∃ (l : Addr) (ns : List Nm) (bs : List Addr), xs = [.ref l] ∧ SqL K H l (bs.map V.ref) ∧ Nms H ns bs ∧
  ∀ p bs', H p = none → Nms H (srt ns) bs' → Q (.ref p) (upd H p (.lst (bs'.map V.ref)))
theorem each_of {H : Hp} : ∀ {ns : List Nm} {bs : List Addr}, Nms H ns bs → PySem.W.EachIs (fun v n => ∃ b, v = Value.ref b ∧ NmA H n b) (bs.map Value.ref) ns
  | _, _, .nil => .nil
  | _, _, .cons h t => .cons ⟨_, rfl, h⟩ (each_of t)
theorem vals_refs' : ∀ {bs : List Addr} {us : List Value}, Vals (bs.map V.ref) us → us = bs.map Value.ref
  | [], _, .nil => rfl
  | b :: bs, _, .cons h t => by
    have h' : _ = Value.ref b := h
    rw [h', vals_refs' t]
    rfl
theorem call_sortLN (hK : X.K = K) (hc : X.calm = true) (hu : X.A.units + 16 < cLine) : CallR X (.builtin "sorted") (rSortLN K) := by
  subst hK
  intro pins s σ H xs us Q I r h
  obtain ⟨l, ns, bs, rfl, hl, hn, q⟩ := h
  obtain ⟨u, rfl, rx⟩ := r.one
  cases rx
  obtain ⟨its, rv, pl, hz⟩ := I.list hl
  have ei := vals_refs' rv
  subst ei
  rw [List.length_map] at hz
  refine PySem.Calls.call_function_entry kind_sorted plain_sorted entry_sorted (args_sorted1 _) ?_
  unfold Builtin.«sorted»
  refine wpAny_bind (m := checkCount "sorted" 1 1 _) (wpAny_pure ?_)
  refine wpAny_bind (collect_list (A := X.A.in1) (vs := bs.map Value.ref) pl.isList ?_ (by rw [List.length_map]; exact hz))
  have hlen : (bs.map Value.ref).length ≤ sizeLine := by rw [List.length_map]; exact hz
  have kp : ∀ b ob, s.heap.get? b = some ob → ((s.heap.push (seqObj "list" #[] 0)).update s.heap.objs.size (Obj.mapSeq (· ++ (bs.map Value.ref).toArray))).get? b = some ob := fun b ob e =>
    (Heap.get?_update_other _ _ (Ne.symm (Nat.ne_of_lt (Heap.lt_size e)))).trans (Heap.get?_push_of_some _ e)
  have hsz : s.heap.objs.size ≤ ((s.heap.push (seqObj "list" #[] 0)).update s.heap.objs.size (Obj.mapSeq (· ++ (bs.map Value.ref).toArray))).objs.size := by
    exact Nat.le_of_lt (Heap.lt_size (Heap.get?_update_self (Obj.mapSeq (· ++ (bs.map Value.ref).toArray)) (Heap.get?_push_size (o := seqObj "list" #[] 0) s.heap rfl) rfl))
  generalize ((s.heap.push (seqObj "list" #[] 0)).update s.heap.objs.size (Obj.mapSeq (· ++ (bs.map Value.ref).toArray))) = h' at kp hsz ⊢
  have E0 : PySem.W.EachIs (fun v n => ∃ b, v = Value.ref b ∧ NmA H n b) (bs.map Value.ref) ns := each_of hn
  have I1 : Inv X pins σ H { s with heap := h'.push { cls := .type "list", data := .seq (bs.map Value.ref).toArray }, toks := s.toks } := I.kept fun b ob e => Heap.get?_push_of_some _ (kp b ob e)
  refine wpAny_bind (wpAny_newList ?_ hlen)
  have hob : (h'.push { cls := .type "list", data := .seq (bs.map Value.ref).toArray }).get? h'.objs.size = some (seqObj "list" (bs.map Value.ref).toArray 0) := Heap.get?_push_size _ rfl
  have ld : ∀ b : Nm, (nmD b).depth = 1 := fun b => by simp [nmD, PyData.depth, PyData.depthAll]
  refine wpAny_bind (wpAny_holding (wpAny_mono (PySem.W.list_sort_data (A := X.A.in1) (s := { s with heap := h'.push { cls := .type "list", data := .seq (bs.map Value.ref).toArray }, toks := s.toks }) (enc := nmD) (vs := (bs.map Value.ref)) (bs := ns)
    (R := fun v n => ∃ b, v = Value.ref b ∧ NmA H n b) (Q := fun _ s' => EP X pins σ Q (.ref h'.objs.size) s') (E := fun _ _ => False) hob E0 ?_ (PySem.W.AllAlike.of alike_nm) (PySem.W.Sortable.tuples fun b => ⟨_, _, rfl⟩) (by rw [← E0.length]; exact hlen) (fun b _ => by rw [ld b]; show X.A.units + 1 + 1 + 1 < cLine; omega) ?_)
    (fun _ s' x => wpAny_pure ⟨_, rfl, x⟩) (fun _ _ e => e.elim)))
  · -- the names read off tuples
    refine E0.mono fun v n hv => ?_
    obtain ⟨b, rfl, hb⟩ := hv
    obtain ⟨_, its, rv, ot, hot, hct, nt, hdt2⟩ := (show ObjOk X.prog X.w H _ b (.tup (nmV n)) from I1.hok b _ hb)
    cases rv with
    | cons r1 r2 =>
      cases r2 with
      | cons r3 r4 =>
        cases r4
        obtain ⟨t1, rfl⟩ := r1
        obtain ⟨t2, rfl⟩ := r3
        refine ⟨[] ++ ([] ++ []), .tuple hot hct hdt2 (.cons (.int _ _) (.cons (.str _ _) .nil)), by simp⟩
  · intro out lo eo
    obtain ⟨bz, e1, e2⟩ := each_paired eo
    obtain ⟨ep', hat⟩ := sortedHeap_at (out := out.toArray) hob
    refine ⟨.ref h'.objs.size, _, I.laid (t' := s.toks) (a := h'.objs.size) (o := .lst (bz.map V.ref)) (fun b ob e => ?_) ?_ ?_, rfl, q _ bz (I.hok.fresh ?_) e2⟩
    · have hlt := Heap.lt_size (kp b ob e)
      rw [sortedHeap_old (Nat.ne_of_lt hlt) (by rw [size_push']; exact Nat.lt_succ_of_lt hlt)]
      exact Heap.get?_push_of_some _ (kp b ob e)
    · exact hsz
    · refine ⟨?_, bz.map Value.ref, ep', vals_refs bz, by rw [← e1]; exact hat⟩
      have e3 : out.length = bz.length := by rw [e1, List.length_map]
      rw [List.length_map, ← e3, lo, ← E0.length]
      exact hlen
    · exact hsz
end
end Mw

set_option maxHeartbeats 4000000
/-! AwS: sorted(l), l a list of names. -/
namespace Aw
open PySem PySem.Spec PyProof.Rows L2 Mw
variable {Z : Zx}
def srtLW : List W → Sto → QK → Prop := fun ws σ Q => ∃ w ns, ws = [w] ∧ dat σ w = some (.list (ns.map nmD)) ∧ Q (.d (.list ((srt ns).map nmD))) σ
theorem rpAll_nms {K : PySem.W.Frag} {ρ : List Addr} {H : Hp} : ∀ {ns : List Nm} {xs : List V}, RpAll K ρ H xs (ns.map nmD) → ∃ bs : List Addr, xs = bs.map V.ref ∧ Nms H ns bs
  | [], _, h => by cases h; exact ⟨[], rfl, .nil⟩
  | n :: ns, _, h => by
    cases h with
    | cons h t =>
      obtain ⟨bs, e1, e2⟩ := rpAll_nms t
      obtain ⟨a, xs, e, h1, h2⟩ := (Rp.tp h).tup
      cases h2 with
      | cons v1 v2 =>
        cases v2 with
        | cons v2 v3 =>
          cases v3
          cases v1
          cases v2
          exact ⟨a :: bs, by rw [e, e1]; rfl, .cons h1 e2⟩
instance sim_srtL : SimC Z (rSortLN Z.K) srtLW := ⟨fun {ρ σ H xs ws Qa Q} rl v q kq => by
  obtain ⟨w, ns, rfl, h1, q⟩ := q
  cases v with
  | cons v1 v2 =>
    cases v2
    have td := dat_tp rl v1 h1
    obtain ⟨a, xs, e, hr, hw⟩ : ∃ a xs, _ = V.ref a ∧ Rd H a (.lst xs) ∧ RpAll Z.K ρ H xs (ns.map nmD) := td
    obtain ⟨bs, rfl, hn⟩ := rpAll_nms hw
    exact ⟨a, ns, bs, by rw [e], .inl hr, hn, fun p bs' np hn' => kq.layL rl np (nms_rp hn') q⟩⟩
instance : MoC srtLW := ⟨fun k ⟨w, ns, e, h, q⟩ => ⟨w, ns, e, h, k _ _ q⟩⟩
theorem r_srtL {w : W} {ns : List Nm} {σ : Sto} {Q : QK} (h : dat σ w = some (.list (ns.map nmD))) (q : Q (.d (.list ((srt ns).map nmD))) σ) : srtLW [w] σ Q := ⟨w, ns, rfl, h, q⟩
theorem call_sortLA {X : Cx} {K : PySem.W.Frag} {k : Nat} (hK : X.K = K) (hc : X.calm = true) (hr : Room k X.A) : CallR X (.builtin "sorted") (rSortLN K) := call_sortLN hK hc (by have := hr.un; omega)
end Aw

set_option maxHeartbeats 8000000
set_option synthInstance.maxHeartbeats 2000000
set_option synthInstance.maxSize 100000
/-! L15P: k15: its own defs as abstract programs (generated). -/
namespace Lw
open PySem PySem.Spec PyProof.Rows L2 Mw Aw
noncomputable abbrev p15Ito : AS := (aRet (aAndV (aIsi "tuple" (aVar 1)) (aOp (ra2 (eqF false)) (aCB lenW (aCons (aVar 1) aNil)) (aVar 0))))
noncomputable abbrev p15Num : AS := (aRet (aAndV (aIsi "int" (aVar 0)) (aNotV (aIsi "bool" (aVar 0)))))
noncomputable abbrev p15Sml : AS := (aRet (aChain (ra2 (ordF fLe)) (ra2 (ordF fLe)) (aD (.str "a")) (aVar 0) (aD (.str "z"))))
noncomputable abbrev p15Wrd (fSml : AF) : AS := (aSeq (aIfS (aNot (aTest (aIsi "str" (aVar 0))))
    (aRet (aD (.bool false)))
    aNext)
  (aRet (aAndV (aChain (ra2 (ordF fLe)) (ra2 (ordF fLe)) (aD (.int 1)) (aCB lenW (aCons (aVar 0) aNil)) (aD (.int 8))) (aAllG (aIt (aVar 0)) (agN 1) aYes (aCall fSml 1 (aCons (aVar 1) aNil)) [1] true))))
noncomputable abbrev p15Isn (fWrd fNum fIto : AF) : AS := (aSeq (aIfS (aNot (aTest (aCall fIto 2 (aCons (aD (.int 2)) (aCons (aVar 0) aNil)))))
    (aRet (aD (.bool false)))
    aNext)
  (aRet (aAndV (aCall fNum 1 (aCons (aOp ixW (aVar 0) (aD (.int 0))) aNil)) (aAndV (aOp (ra2 (ordF fGe)) (aOp ixW (aVar 0) (aD (.int 0))) (aD (.int 1))) (aCall fWrd 1 (aCons (aOp ixW (aVar 0) (aD (.int 1))) aNil))))))
noncomputable abbrev p15Nof : AS := (aRet (aTupG (aIt (aVar 0)) (agN 1) aYes (aOp ixW (aVar 1) (aD (.int 0))) [1]))
noncomputable abbrev p15By : AS := (aRet (aDcT (aIt (aVar 0)) (agN 1) aYes (aOp ixW (aVar 1) (aD (.int 0))) (aVar 1) [1]))
noncomputable abbrev p15Eby : AS := (aSeq (aAsg (aDcT (aIt (aVar 0)) (agN 3) aYes (aVar 3) (aD (.bool true)) [3]) (agN 2))
  (aSeq (aFor (aIt (aVar 0)) (agN 3)
    (aFor (aIt (aOp ixW (aVar 1) (aVar 3))) (agN 4)
    (aDPut (aVar 2) (aVar 4) (aD (.bool true)))))
  (aRet (aVar 2))))
noncomputable abbrev p15Kno (fEby : AF) : AS := (aSeq (aAsg (aDNew true) (agN 1))
  (aSeq (aFor (aIt (aVar 0)) (agN 2)
    (aDPut (aVar 1) (aOp ixW (aVar 2) (aD (.int 0))) (aCall fEby 2 (aCons (aOp ixW (aVar 2) (aD (.int 2))) (aCons (aVar 1) aNil)))))
  (aRet (aVar 1))))
noncomputable abbrev p15Cho (fIsn : AF) : AS := (aSeq (aIfS (aTest (aCall fIsn 1 (aCons (aVar 1) aNil)))
    (aFor (aIt (aVar 0)) (agN 2)
    (aIfS (aTest (aOp (ra2 (eqF false)) (aOp ixW (aVar 2) (aD (.int 0))) (aVar 1)))
    (aRet (aVar 2))
    aNext))
    aNext)
  aNever)
noncomputable abbrev p15Knw (fKno fCho : AF) : AS := (aSeq (aAsg (aCall fCho 2 (aCons (aVar 0) (aCons (aVar 1) aNil))) (agN 2))
  (aSeq (aAsg (aOp ixW (aCall fKno 1 (aCons (aVar 0) aNil)) (aOp ixW (aVar 2) (aD (.int 0)))) (agN 3))
  (aRet (aTupG (aIt (aVar 0)) (agN 4) (aTest (aOp (inW false) (aOp ixW (aVar 4) (aD (.int 0))) (aVar 3))) (aVar 4) [4]))))
noncomputable abbrev p15Top (fNof : AF) : AS := (aSeq (aAsg (aDc2 (aIt (aVar 0)) (agN 2) aYes (aIt (aOp ixW (aVar 2) (aD (.int 2)))) (agN 3) aYes (aVar 3) (aD (.bool true)) [2, 3] [3]) (agN 1))
  (aRet (aTupG (aIt (aCall fNof 1 (aCons (aVar 0) aNil))) (agN 3) (aTest (aOp (inW true) (aVar 3) (aVar 1))) (aVar 3) [3])))
noncomputable abbrev p15Brn (fNof : AF) : AS := (aRet (aTupG (aIt (aCall fNof 1 (aCons (aVar 0) aNil))) (agN 2) (aTest (aOp (ra2 (eqF false)) (aOp ixW (aVar 2) (aD (.int 1))) (aVar 1))) (aVar 2) [2]))
noncomputable abbrev p15Ein (fBy : AF) : AS := (aSeq (aAsg (aCall fBy 1 (aCons (aVar 1) aNil)) (agN 2))
  (aSeq (aFor (aIt (aVar 0)) (agN 3)
    (aDPut (aVar 2) (aOp ixW (aVar 3) (aD (.int 0))) (aVar 3)))
  (aRet (aTupG (aIt (aCB srtW (aCons (aVar 2) aNil))) (agN 4) aYes (aOp ixW (aVar 2) (aVar 4)) [4]))))
noncomputable abbrev p15Joi (fBrn fKno fBy fEin : AF) : AS := (aSeq (aAsg (aCall fEin 2 (aCons (aVar 0) (aCons (aVar 1) aNil))) (agN 2))
  (aSeq (aAsg (aCall fBy 1 (aCons (aVar 1) aNil)) (agN 3))
  (aSeq (aAsg (aCall fKno 1 (aCons (aVar 2) aNil)) (agN 4))
  (aSeq (aFor (aEnum (aCons (aVar 2) aNil)) (agT 2 (agCons (agN 5) (agCons (agN 6) agNil)))
    (aSeq (aAsg (aOp ixW (aVar 6) (aD (.int 0))) (agN 7))
  (aSeq (aIfS (aTest (aOp (ra2 (eqF true)) (aGet2 (aVar 3) (aVar 7) (aVar 6)) (aVar 6)))
    aNever
    aNext)
  (aSeq (aAsg (aCall fBrn 2 (aCons (aSl (aVar 2) aNoP (aPart (aVar 5))) (aCons (aOp ixW (aVar 7) (aD (.int 1))) aNil))) (agN 8))
  (aIfS (aNot (aTest (aAllG (aIt (aVar 8)) (agN 9) aYes (aOp (inW false) (aVar 9) (aOp ixW (aVar 4) (aVar 7))) [9] true)))
    aNever
    aNext)))))
  (aRet (aVar 2))))))
noncomputable abbrev p15Com (fBy : AF) : AS := (aSeq (aAsg (aCall fBy 1 (aCons (aVar 1) aNil)) (agN 2))
  (aSeq (aAsg (aDNew true) (agN 3))
  (aSeq (aFor (aIt (aVar 0)) (agN 4)
    (aSeq (aAsg (aOp (ra2 (eqF false)) (aGet1 (aVar 2) (aOp ixW (aVar 4) (aD (.int 0)))) (aVar 4)) (agN 5))
  (aIfS (aAnd (aTest (aVar 5)) (aTest (aAllG (aIt (aOp ixW (aVar 4) (aD (.int 2)))) (agN 6) aYes (aOp (inW false) (aVar 6) (aVar 3)) [6] true)))
    (aDPut (aVar 3) (aOp ixW (aVar 4) (aD (.int 0))) (aVar 4))
    aNext)))
  (aRet (aTupVals (aVar 3))))))
noncomputable abbrev p15Prt (fBy : AF) : AS := (aSeq (aAsg (aCall fBy 1 (aCons (aVar 1) aNil)) (agN 2))
  (aRet (aAllG (aIt (aVar 0)) (agN 3) aYes (aOp (ra2 (eqF false)) (aGet1 (aVar 2) (aOp ixW (aVar 3) (aD (.int 0)))) (aVar 3)) [3] true)))
noncomputable abbrev p15Isr (fIsn fBy : AF) : AS := (aSeq (aIfS (aOr (aNot (aTest (aIsi "tuple" (aVar 1)))) (aTest (aOp (ra2 (eqF true)) (aCB lenW (aCons (aVar 1) aNil)) (aCB lenW (aCons (aVar 0) aNil)))))
    (aRet (aD (.bool false)))
    aNext)
  (aSeq (aAsg (aCall fBy 1 (aCons (aVar 0) aNil)) (agN 2))
  (aSeq (aAsg (aDNew true) (agN 3))
  (aSeq (aFor (aIt (aVar 1)) (agN 4)
    (aSeq (aIfS (aOr (aNot (aTest (aCall fIsn 1 (aCons (aVar 4) aNil)))) (aOr (aTest (aOp (inW true) (aVar 4) (aVar 2))) (aTest (aOp (inW false) (aVar 4) (aVar 3)))))
    (aRet (aD (.bool false)))
    aNext)
  (aSeq (aIfS (aNot (aTest (aAllG (aIt (aOp ixW (aOp ixW (aVar 2) (aVar 4)) (aD (.int 2)))) (agN 5) aYes (aOp (inW false) (aVar 5) (aVar 3)) [5] true)))
    (aRet (aD (.bool false)))
    aNext)
  (aDPut (aVar 3) (aVar 4) (aD (.bool true))))))
  (aRet (aD (.bool true)))))))
noncomputable abbrev p15Rbn (fNof : AF) : AS := (aRet (aCall fNof 1 (aCons (aVar 0) aNil)))
noncomputable abbrev p15Road (fDraw : AF) : AS := (aSeq (aAsg (aCB listCW (aCons (aVar 2) aNil)) (agN 3))
  (aSeq (aAsg (aLstC aNil) (agN 4))
  (aSeq (aAsg (aCall fDraw 2 (aCons (aVar 0) (aCons (aD (.int 3)) aNil))) (agN 5))
  (aSeq (aWhile (aTest (aOp (ra2 (eqF true)) (aVar 3) (aLst aNil)))
    (aSeq (aAsg (aLc (aIt (aVar 3)) (agN 7) (aTest (aOp (ra2 (eqF false)) (aLc (aIt (aOp ixW (aOp ixW (aVar 1) (aD (.str "knows"))) (aVar 7))) (agN 8) (aTest (aOp (inW false) (aVar 8) (aVar 3))) (aVar 8) [8]) (aLst aNil))) (aVar 7) [7]) (agN 6))
  (aSeq (aAsg (aOp ixW (aVar 6) (aOp ixW (aLst (aCons (aCall fDraw 2 (aCons (aVar 0) (aCons (aCB lenW (aCons (aVar 6) aNil)) aNil))) (aCons (aD (.int 0)) (aCons (aOp (ra2 subD) (aCB lenW (aCons (aVar 6) aNil)) (aD (.int 1))) aNil)))) (aVar 5))) (agN 7))
  (aSeq (aDrop (aBM "list" remW (aVar 3) (aCons (aVar 7) aNil)))
  (aDrop (aBM "list" appendW (aVar 4) (aCons (aVar 7) aNil)))))))
  (aRet (aCB tupleW (aCons (aVar 4) aNil)))))))
noncomputable abbrev p15Laid (fKnw fCho : AF) : AS := (aRet (aCB tupleW (aCons (aOp (ra2 addD) (aCB listW (aCons (aCall fKnw 2 (aCons (aVar 0) (aCons (aVar 1) aNil))) aNil)) (aLst (aCons (aCall fCho 2 (aCons (aVar 0) (aCons (aVar 1) aNil))) aNil))) aNil)))
noncomputable abbrev p15Srt (fTop fKnw fRbn fPrt : AF) : AS := (aSeq (aIfS (aOr (aTest (aNoB true (aCall fPrt 2 (aCons (aVar 1) (aCons (aVar 0) aNil))))) (aTest (aOp (ra2 (eqF true)) (aCB listW (aCons (aCall fRbn 1 (aCons (aVar 1) aNil)) aNil)) (aCB srtLW (aCons (aVar 2) aNil)))))
    (aRet (aD (.bool false)))
    aNext)
  (aSeq (aFor (aIt (aVar 2)) (agN 3)
    (aIfS (aTest (aOp (ra2 (eqF true)) (aCB reprW (aCons (aCall fKnw 2 (aCons (aVar 1) (aCons (aVar 3) aNil))) aNil)) (aCB reprW (aCons (aCall fKnw 2 (aCons (aVar 0) (aCons (aVar 3) aNil))) aNil))))
    (aRet (aD (.bool false)))
    aNext))
  (aRet (aOp (ra2 (eqF false)) (aLc (aIt (aCall fTop 1 (aCons (aVar 1) aNil))) (agN 3) (aTest (aOp (inW true) (aVar 3) (aVar 2))) (aVar 3) [3]) (aLst aNil)))))
noncomputable abbrev p15Byr (fSrt fDraw fJoi fLaid : AF) : AS := (aSeq (aAsg (aLstC (aCons (aTup aNil) aNil)) (agN 3))
  (aSeq (aAsg (aLstC aNil) (agN 4))
  (aSeq (aFor (aIt (aVar 2)) (agN 5)
    (aSeq (aAsg (aCall fLaid 2 (aCons (aVar 1) (aCons (aVar 5) aNil))) (agN 6))
  (aSeq (aDrop (aBM "list" appendW (aVar 3) (aCons (aIf (aTest (aOp (ra2 (eqF false)) (aCall fDraw 2 (aCons (aVar 0) (aCons (aD (.int 2)) aNil))) (aD (.int 0)))) (aCall fJoi 2 (aCons (aVar 6) (aCons (aOp ixW (aVar 3) (aUn (ra1 negD) (aD (.int 1)))) aNil))) (aCall fJoi 2 (aCons (aOp ixW (aVar 3) (aUn (ra1 negD) (aD (.int 1)))) (aCons (aVar 6) aNil)))) aNil)))
  (aSeq (aDrop (aBM "list" appendW (aVar 4) (aCons (aVar 5) aNil)))
  (aIfS (aNot (aTest (aCall fSrt 3 (aCons (aVar 1) (aCons (aOp ixW (aVar 3) (aUn (ra1 negD) (aD (.int 1)))) (aCons (aVar 4) aNil))))))
    (aRet (aD .none))
    aNext)))))
  (aRet (aVar 3)))))
noncomputable abbrev p15Lum (fTop fJoi fLaid fDraw : AF) : AS := (aSeq (aAsg (aTup aNil) (agN 3))
  (aSeq (aFor (aR1 (aCons (aOp (ra2 mulD) (aCall fDraw 2 (aCons (aVar 0) (aCons (aD (.int 7)) aNil))) (aCB intW (aCons (aOp (ra2 (eqF true)) (aVar 2) (aLst aNil)) aNil))) aNil)) (agN 4)
    (aAsg (aCall fJoi 2 (aCons (aVar 3) (aCons (aCall fLaid 2 (aCons (aVar 1) (aCons (aOp ixW (aVar 2) (aCall fDraw 2 (aCons (aVar 0) (aCons (aCB lenW (aCons (aVar 2) aNil)) aNil)))) aNil))) aNil))) (agN 3)))
  (aSeq (aFor (aIt (aCall fTop 1 (aCons (aVar 1) aNil))) (agN 5)
    (aAsg (aCall fJoi 2 (aCons (aCall fLaid 2 (aCons (aVar 1) (aCons (aVar 5) aNil))) (aCons (aVar 3) aNil))) (agN 3)))
  (aRet (aVar 3)))))
noncomputable abbrev p15Law (fLum fWo fCom fDraw fByr fIsr fRoad fLedger fWorld fWords fFeed : AF) : AS := (aSeq (aAsg (aCall fFeed 1 (aCons (aVar 0) aNil)) (agN 1))
  (aSeq (aAsg (aCall fWords 2 (aCons (aVar 1) (aCons (aOp (ra2 addD) (aD (.int 1)) (aCall fDraw 2 (aCons (aVar 1) (aCons (aD (.int 6)) aNil)))) aNil))) (agN 2))
  (aSeq (aAsg (aCall fWorld 3 (aCons (aVar 1) (aCons (aVar 2) (aCons (aCall fDraw 2 (aCons (aVar 1) (aCons (aD (.int 17)) aNil))) aNil)))) (agN 3))
  (aSeq (aAsg (aCB srtW (aCons (aOp ixW (aVar 3) (aD (.str "changes"))) aNil)) (agN 4))
  (aSeq (aAsg (aCall fLedger 2 (aCons (aVar 3) (aCons (aVar 4) aNil))) (agN 5))
  (aSeq (aFor (aR1 (aCons (aD (.int 2)) aNil)) (agN 6)
    (aSeq (aAsg (aCall fRoad 3 (aCons (aVar 1) (aCons (aVar 3) (aCons (aVar 4) aNil)))) (agN 7))
  (aSeq (aIfS (aTest (aNoB true (aCall fIsr 2 (aCons (aVar 5) (aCons (aVar 7) aNil)))))
    (aRet (aD (.bool false)))
    aNext)
  (aSeq (aAsg (aCall fByr 3 (aCons (aVar 1) (aCons (aVar 5) (aCons (aVar 7) aNil)))) (agN 8))
  (aSeq (aIfS (aOr (aTest (aIsN (aVar 8))) (aTest (aOp (ra2 (eqF true)) (aCB reprW (aCons (aOp ixW (aVar 8) (aUn (ra1 negD) (aD (.int 1)))) aNil)) (aCB reprW (aCons (aVar 5) aNil)))))
    (aRet (aD (.bool false)))
    aNext)
  (aSeq (aPar 9 10 (aCons (aCall fDraw 2 (aCons (aVar 1) (aCons (aCB lenW (aCons (aVar 8) aNil)) aNil))) (aCons (aCall fDraw 2 (aCons (aVar 1) (aCons (aCB lenW (aCons (aVar 8) aNil)) aNil))) aNil)))
  (aSeq (aIfS (aTest (aOp (ra2 (eqF true)) (aCB reprW (aCons (aCall fCom 2 (aCons (aOp ixW (aVar 8) (aVar 9)) (aCons (aOp ixW (aVar 8) (aVar 10)) aNil))) aNil)) (aCB reprW (aCons (aOp ixW (aVar 8) (aCB min2W (aCons (aVar 9) (aCons (aVar 10) aNil)))) aNil))))
    (aRet (aD (.bool false)))
    aNext)
  (aSeq (aIfS (aTest (aOp (ra2 (eqF true)) (aCB reprW (aCons (aCall fWo 2 (aCons (aVar 5) (aCons (aSl (aVar 7) (aPart (aVar 9)) aNoP) aNil))) aNil)) (aCB reprW (aCons (aOp ixW (aVar 8) (aVar 9)) aNil))))
    (aRet (aD (.bool false)))
    aNext)
  (aIfS (aTest (aOp (ra2 (eqF true)) (aCB reprW (aCons (aCall fLum 3 (aCons (aVar 1) (aCons (aVar 5) (aCons (aVar 4) aNil)))) aNil)) (aCB reprW (aCons (aVar 5) aNil))))
    (aRet (aD (.bool false)))
    aNext)))))))))
  (aRet (aD (.bool true)))))))))
end Lw

set_option maxHeartbeats 4000000
/-! L15A: k15: kinds of names; change_of, known. -/
namespace Lw
open PySem PySem.Spec PyProof.Rows L2 Mw Aw
/-! ### is_name of names -/
theorem r_isiV {i : Nat} {n : String} {d : PyData} {b : Bool} {e : Ev} {σ : Sto} {Q : QK} {X : XQ} (hv : e[i]? = some (some (.d d))) (hd : ∀ ds, d ≠ .dict ds) (hk : kitB (tyN d) n = some b) (q : Q (.d (.bool b)) σ) : aIsi n (aVar i) e σ Q X := ⟨.d d, hv, d, b, rfl, hd, hk, q⟩
theorem r_nt {p q : Prop} (h : q) : if (!true) = true then p else q := h
def fIto : AF := fun ws σ Q _ => ∃ (m : Int) (ds : List PyData), ws = [.d (.int m), .d (.tuple ds)] ∧ Q (.d (.bool (decide ((ds.length : Int) = m)))) σ
instance : MoF fIto := ⟨fun k ⟨a, b, h, q⟩ => ⟨a, b, h, k _ _ q⟩⟩
def fNum : AF := fun ws σ Q _ => ∃ (m : Int), ws = [.d (.int m)] ∧ Q (.d (.bool true)) σ
instance : MoF fNum := ⟨fun k ⟨a, h, q⟩ => ⟨a, h, k _ _ q⟩⟩
def fSml : AF := fun ws σ Q _ => ∃ c : Nat, ws = [Aw.chD c] ∧ 97 ≤ c ∧ c ≤ 122 ∧ Q (.d (.bool true)) σ
instance : MoF fSml := ⟨fun k ⟨a, h, h1, h2, q⟩ => ⟨a, h, h1, h2, k _ _ q⟩⟩
def fWd : AF := fun ws σ Q _ => ∃ z : Str, ws = [.d (.str z)] ∧ Wrd z ∧ Q (.d (.bool true)) σ
instance : MoF fWd := ⟨fun k ⟨a, h, h1, q⟩ => ⟨a, h, h1, k _ _ q⟩⟩
structure NmK (n : Nm) : Prop extends NmOk n where
  one : 1 ≤ n.1
def fIsn : AF := fun ws σ Q _ => ∃ n : Nm, ws = [.d (nmD n)] ∧ NmK n ∧ Q (.d (.bool true)) σ
instance : MoF fIsn := ⟨fun k ⟨a, h, h1, q⟩ => ⟨a, h, h1, k _ _ q⟩⟩
theorem wr_one {zs : List Str} {cs : List Ch} (w : Wr zs cs) : ∀ c ∈ cs, 1 ≤ c.nm.1 := by
  induction w with
  | nil => intro c hc; cases hc
  | @snoc cs c0 w s ih =>
    intro c hc
    rcases List.mem_append.mp hc with h | h
    · exact ih c h
    · rw [List.mem_singleton.mp h]
      obtain ⟨br, hand, gs, deed, _, _, hg, _, e, _⟩ := s.ex
      rw [e]
      show 1 ≤ 1 + maxZ 0 _
      have hb := maxZ_le (B := (cs.length : Int) + 1) (by omega) (l := (srt (want cs gs)).map (·.1)) fun x hx => by
        obtain ⟨m, hm, rfl⟩ := List.mem_map.mp hx
        have := cnt_le w m (want_sub w hg (mem_srt.mp hm))
        omega
      have := hb.1
      omega
theorem nm_k {zs : List Str} {cs : List Ch} (w : Wr zs cs) (ww : ∀ z ∈ zs, Wrd z) (h : cs.length ≤ 17) : ∀ n ∈ names cs, NmK n := fun n hn => by
  obtain ⟨c, hc, rfl⟩ := List.mem_map.mp hn
  exact { nm_ok w ww h _ hn with one := wr_one w c hc }
/-! ### change_of -/
def fCho : AF := fun ws σ Q _ => ∃ (M : List Ch) (c : Ch), ws = [.d (ledD M), .d (nmD c.nm)] ∧ c ∈ M ∧ (names M).Nodup ∧ NmK c.nm ∧ (∀ d ∈ M, NmOk d.nm) ∧ Q (.d (Mw.chD c)) σ
instance : MoF fCho := ⟨fun k ⟨a, b, h, h1, h2, h3, h4, q⟩ => ⟨a, b, h, h1, h2, h3, h4, k _ _ q⟩⟩
/-! ### parts of a world -/
/-! ### known -/
structure Wld (zs : List Str) (cs : List Ch) : Prop where
  wr : Wr zs cs
  ww : ∀ z ∈ zs, Wrd z
  few : cs.length ≤ 16
theorem Wld.nd {zs : List Str} {cs : List Ch} (W : Wld zs cs) : (names cs).Nodup := names_nodup W.wr
theorem Wld.ok {zs : List Str} {cs : List Ch} (W : Wld zs cs) : ∀ c ∈ cs, ChOk c := ch_ok W.wr W.ww (by have := W.few; omega)
theorem Wld.nk {zs : List Str} {cs : List Ch} (W : Wld zs cs) : ∀ n ∈ names cs, NmK n := nm_k W.wr W.ww (by have := W.few; omega)
def fKnw : AF := fun ws σ Q _ => ∃ zs cs A c, ws = [.d (ledD (ledP cs A)), .d (nmD c.nm)] ∧ Wld zs cs ∧ ClP cs A ∧ c ∈ cs ∧ c.nm ∈ A ∧ Q (.d (ledD (ledP cs c.kn))) σ
instance : MoF fKnw := ⟨fun k ⟨a, b, c, d, h, h1, h2, h3, h4, q⟩ => ⟨a, b, c, d, h, h1, h2, h3, h4, k _ _ q⟩⟩
/-! ### a change with all that it knows -/
def fLaid : AF := fun ws σ Q _ => ∃ zs cs A c, ws = [.d (ledD (ledP cs A)), .d (nmD c.nm)] ∧ Wld zs cs ∧ ClP cs A ∧ c ∈ cs ∧ c.nm ∈ A ∧ Q (.d (ledD (ledP cs (c.kn ++ [c.nm])))) σ
instance : MoF fLaid := ⟨fun k ⟨a, b, c, d, h, h1, h2, h3, h4, q⟩ => ⟨a, b, c, d, h, h1, h2, h3, h4, k _ _ q⟩⟩
end Lw

set_option maxHeartbeats 4000000
/-! L15B: k15: is_part, common, is_road. -/
namespace Lw
open PySem PySem.Spec PyProof.Rows L2 Mw Aw
def fRbn : AF := fNof
instance : MoF fRbn := inferInstanceAs (MoF fNof)
def fPrt : AF := fun ws σ Q _ => ∃ zs cs A B, ws = [.d (ledD (ledP cs A)), .d (ledD (ledP cs B))] ∧ Wld zs cs ∧ (∀ c ∈ cs, c.nm ∈ A → c.nm ∈ B) ∧ Q (.d (.bool true)) σ
instance : MoF fPrt := ⟨fun k ⟨a, b, c, d, h, h1, h2, q⟩ => ⟨a, b, c, d, h, h1, h2, k _ _ q⟩⟩
def fCom : AF := fun ws σ Q _ => ∃ zs cs A B, ws = [.d (ledD (ledP cs A)), .d (ledD (ledP cs B))] ∧ Wld zs cs ∧ ClP cs A ∧ ClP cs B ∧ Q (.d (ledD (ledP cs (A.filter fun n => decide (n ∈ B))))) σ
instance : MoF fCom := ⟨fun k ⟨a, b, c, d, h, h1, h2, h3, q⟩ => ⟨a, b, c, d, h, h1, h2, h3, k _ _ q⟩⟩
/-! ### roads -/
structure Rdd (cs : List Ch) (rd : List Nm) : Prop where
  nd : rd.Nodup
  all : ∀ m, m ∈ rd ↔ m ∈ names cs
  ord : ∀ (i : Nat) (m : Nm), rd[i]? = some m → ∀ k ∈ knOf cs m, k ∈ rd.take i
theorem Rdd.len {cs : List Ch} {rd : List Nm} (r : Rdd cs rd) (nd : (names cs).Nodup) : rd.length = cs.length := by
  have h : rd.Perm (names cs) := (List.perm_ext_iff_of_nodup r.nd nd).mpr r.all
  rw [h.length_eq]
  simp [names]
def fIsr : AF := fun ws σ Q _ => ∃ zs cs rd, ws = [.d (ledD (ledP cs (names cs))), .d (.tuple (rd.map nmD))] ∧ Wld zs cs ∧ Rdd cs rd ∧ Q (.d (.bool true)) σ
instance : MoF fIsr := ⟨fun k ⟨a, b, c, h, h1, h2, q⟩ => ⟨a, b, c, h, h1, h2, k _ _ q⟩⟩
end Lw

set_option maxHeartbeats 4000000
/-! L15C: k15: the road of the law. -/
namespace Lw
open PySem PySem.Spec PyProof.Rows L2 Mw Aw
structure RdI (cs : List Ch) (l rd : List Nm) : Prop where
  nl : l.Nodup
  nr : rd.Nodup
  mem : ∀ m, m ∈ names cs ↔ m ∈ l ∨ m ∈ rd
  dis : ∀ m ∈ l, m ∉ rd
  ord : ∀ (i : Nat) (m : Nm), rd[i]? = some m → ∀ k ∈ knOf cs m, k ∈ rd.take i
theorem RdI.step {zs : List Str} {cs : List Ch} (w : Wr zs cs) {l rd : List Nm} (r : RdI cs l rd) {m : Nm} (hm : m ∈ l) (hk : (knOf cs m).filter (fun k => decide (k ∈ l)) = []) : RdI cs (l.erase m) (rd ++ [m]) := by
  refine ⟨r.nl.erase m, ?_, fun x => ?_, fun x hx => ?_, fun i x hx k hk' => ?_⟩
  · refine List.nodup_append.mpr ⟨r.nr, by simp, fun a ha b hb e => ?_⟩
    rw [List.mem_singleton] at hb
    subst hb e
    exact r.dis a hm ha
  · rw [r.mem, r.nl.mem_erase_iff, List.mem_append, List.mem_singleton]
    by_cases e : x = m
    · subst e; simp [hm]
    · simp [e]
  · obtain ⟨h1, h2⟩ := (r.nl.mem_erase_iff).mp hx
    simp only [List.mem_append, List.mem_singleton, not_or]
    exact ⟨r.dis x h2, h1⟩
  · by_cases hi : i < rd.length
    · rw [List.getElem?_append_left hi] at hx
      rw [List.take_append_of_le_length (by omega)]
      exact r.ord i x hx k hk'
    · have hl := (List.getElem?_eq_some_iff.mp hx).1
      rw [List.length_append, List.length_singleton] at hl
      have ei : i = rd.length := by omega
      subst ei
      rw [List.getElem?_append_right (Nat.le_refl _)] at hx
      have ex : x = m := by simpa using hx.symm
      subst ex
      rw [List.take_append_of_le_length (Nat.le_refl _), List.take_length]
      have hkn : k ∈ names cs := kn_names w ((r.mem x).mpr (.inl hm)) hk'
      rcases (r.mem k).mp hkn with z | z
      · have := List.filter_eq_nil_iff.mp hk k hk'
        exact absurd (decide_eq_true z) this
      · exact z
theorem RdI.len {cs : List Ch} (nd : (names cs).Nodup) {l rd : List Nm} (r : RdI cs l rd) : l.length + rd.length = cs.length := by
  have h1 : (l ++ rd).Nodup := List.nodup_append.mpr ⟨r.nl, r.nr, fun a ha b hb e => r.dis a ha (e ▸ hb)⟩
  have h : (l ++ rd).Perm (names cs) := (List.perm_ext_iff_of_nodup h1 nd).mpr fun m => by rw [List.mem_append, r.mem]
  have := h.length_eq
  rw [List.length_append] at this
  simpa [names] using this
def fRoad : AF := fun ws σ Q _ => ∃ F n cs zs c, ws = [.ref F, .ref n, .d (.list ((srt (names cs)).map nmD))] ∧ σ[F]? = some c ∧ IsFeed c ∧ Off F n ∧ WdA σ n cs ∧ Wld zs cs ∧
  ∀ rd c', Rdd cs rd → IsFeed c' → Q (.d (.tuple (rd.map nmD))) (σ.set F c')
instance : MoF fRoad := ⟨fun k ⟨F, n, cs, zs, c, h1, h2, h3, h4, h5, h6, q⟩ => ⟨F, n, cs, zs, c, h1, h2, h3, h4, h5, h6, fun a b c d => k _ _ (q a b c d)⟩⟩
end Lw

set_option maxHeartbeats 4000000
/-! L15D: k15: a stage is right; the stages of a road; lumps. -/
namespace Lw
open PySem PySem.Spec PyProof.Rows L2 Mw Aw
theorem Wld.shw {zs : List Str} {cs : List Ch} (W : Wld zs cs) (A : List Nm) : Shw (ledD (ledP cs A)) := by
  have := W.few
  have := ledP_len cs A
  exact shw_part W.wr W.ww (by omega) (fun c hc => ledP_mem hc) (by omega)
theorem Wld.wrd {zs : List Str} {cs : List Ch} (W : Wld zs cs) {n : Nm} (h : n ∈ names cs) : Wrd n.2 := (W.nk n h).wrd
def fSrt : AF := fun ws σ Q _ => ∃ zs cs ns i, ws = [.d (ledD (ledP cs (names cs))), .d (ledD (ledP cs ns)), .ref i] ∧ σ[i]? = some (.lst (nmW ns)) ∧ Wld zs cs ∧ ClP cs ns ∧ ns.Nodup ∧ ns.length ≤ 100 ∧ Q (.d (.bool true)) σ
instance : MoF fSrt := ⟨fun k ⟨a, b, c, d, h, h1, h2, h3, h4, h5, q⟩ => ⟨a, b, c, d, h, h1, h2, h3, h4, h5, k _ _ q⟩⟩
end Lw

set_option maxHeartbeats 4000000
/-! L15E: k15: the stages of a road; lumps. -/
namespace Lw
open PySem PySem.Spec PyProof.Rows L2 Mw Aw
abbrev stg (cs : List Ch) (rd : List Nm) (k : Nat) : List PyData := (List.range k).map fun j => ledD (ledP cs (rd.take j))
def fByr : AF := fun ws σ Q _ => ∃ F cs zs rd c, ws = [.ref F, .d (ledD (ledP cs (names cs))), .d (.tuple (rd.map nmD))] ∧ σ[F]? = some c ∧ IsFeed c ∧ Wld zs cs ∧ Rdd cs rd ∧
  ∀ c', IsFeed c' → Q (.d (.list (stg cs rd (rd.length + 1)))) (σ.set F c')
instance : MoF fByr := ⟨fun k ⟨a, b, c, d, e, h, h1, h2, h3, h4, q⟩ => ⟨a, b, c, d, e, h, h1, h2, h3, h4, fun x y => k _ _ (q x y)⟩⟩
end Lw

set_option maxHeartbeats 4000000
/-! L15F: k15: lumps. -/
namespace Lw
open PySem PySem.Spec PyProof.Rows L2 Mw Aw
def fLum : AF := fun ws σ Q _ => ∃ F cs zs c, ws = [.ref F, .d (ledD (ledP cs (names cs))), .d (.list ((srt (names cs)).map nmD))] ∧ σ[F]? = some c ∧ IsFeed c ∧ Wld zs cs ∧
  ∀ c', IsFeed c' → Q (.d (ledD (ledP cs (names cs)))) (σ.set F c')
instance : MoF fLum := ⟨fun k ⟨a, b, c, d, h, h1, h2, h3, q⟩ => ⟨a, b, c, d, h, h1, h2, h3, fun x y => k _ _ (q x y)⟩⟩
end Lw

set_option maxHeartbeats 4000000
/-! L15G: k15: the law. -/
namespace Lw
open PySem PySem.Spec PyProof.Rows L2 Mw Aw
theorem r_par {i j : Nat} {fr : AA} {k : AK} {e : Ev} {σ : Sto} (h : fr e σ (fun ws σ1 => ∃ v w, ws = [v, w] ∧ k.nx ((e.set i (some v)).set j (some w)) σ1) (k.ex e)) : aPar i j fr k e σ := h
theorem cut_dropL {α : Type} (l : List α) (k : Nat) (hk : k ≤ l.length) : cutL l (some (k : Int)) none = l.drop k := by
  unfold cutL
  rw [HT.sIx_none, HT.sIx_nat, Nat.min_eq_left hk]
  exact List.take_of_length_le (by rw [List.length_drop]; exact Nat.le_refl _)
end Lw

set_option maxHeartbeats 4000000
/-! MwX1: defs that let refusals out; raise C(x), C's own __init__ keeping one field. -/
namespace Mw
open PySem PySem.Spec PyProof.Rows L2
section
variable {P : Program} {w : World} {K : PySem.W.Frag} {mg : Str → Option Value} {base : Heap} {N ps : List Str} {x : Str} {st : Stmt} {f c C : Addr} {fd : FuncData} {k : Nat} {sp : Sp}
abbrev By (P : Program) (w : World) (K : PySem.W.Frag) (mg : Str → Option Value) (base : Heap) (N : List Str) (x : Str) (st : Stmt) (f c : Addr) (A : Around) (outer : List Env) (s : Shared) (H : Hp) (E : XK) : Cx :=
  cxOf (L2.CX P w) P w K mg base N x (defScope st) f (.ref c) A outer s H E
theorem Def.okX (D : Def K x st f c fd) (S : FnScope N ps (defScope st)) (len : ∀ vs H Q E, sp vs H Q E → vs.length = ps.length)
    (body : ∀ (A : Around) (outer : List Env) (s : Shared) (H : Hp) (vs : List V) (Q : VK) (E : XK),
      Room k (A.deeper (envOfC x (defScope st) s.heap.objs.size f (.ref c))) → sp vs H Q E →
      ∃ t, PSs (By P w K mg base N x st f c A outer s H E) (defBody st) t ∧ t { nx := fun _ H' => Q .non H', rt := Q } (start N vs) H) :
    FnOk P w K mg base (L2.CX P w) (k + 1) f fd ps sp := by
  obtain ⟨oc, od, kV, doc, pm, an, ct, osl, rfl, lk, hcd⟩ := D.ex
  exact fn_of lk hcd S len body
theorem by_takes {A : Around} {outer : List Env} {s : Shared} {H : Hp} {E : XK} : Takes (By P w K mg base N x st f c A outer s H E) (fun cls d _ H => E cls d H) := takes_of rfl rfl rfl rfl
end
/-- what C's __init__ does: one field f -/
def spI (C : Addr) (f : Str) : Sp := fun vs H Q _ => ∃ (a : Addr) (y : V), vs = [.ref a, y] ∧ H a = some (exo a C none) ∧ ∀ dx, H dx = none → dx ≠ a → Q .non (upd (upd H dx (exd dx [(f, y)])) a (exo a C (some dx)))
/-- raise C(y) -/
def tRaise1 (C : Addr) (f : Str) (ta : TA) (E : XK) : TS := fun _ σ H => tMkO C (spI C f) [] ta σ H fun cls d H' => E cls d H'
section
variable {X : Cx} {E : XK} {C fI : Addr} {fl x : Str} {k : Nat} {fd : FuncData} {ps : List Str} {e : Expr} {ta : TA} {p pos pos' : Pos}
theorem ps_raise1 (hc : X.calm = true) (tk : Takes X (fun cls d _ H => E cls d H)) (T : OexC X.K C) (iC : PySem.W.findIn X.K (.ref C) "__init__" = some (some (.ref fI))) (tI : PySem.W.typeIn X.K (.ref fI) = some (.type "function"))
    (F1 : FnOk X.prog X.w X.K X.mg X.base CX0 k fI fd ps (spI C fl)) (hr : Room (k + 1) X.A) (hb : Binds X.K fd ps []) (hg : Gl X x) (hm : X.mg x = some (.ref C)) (ha : PA X [e] ta)
    (hdb : (x == ("__debug__" : Str)) = false := by decide) (he : starEach [e] X.env = [(false, eval e X.env)] := by rfl) : PS X (.Raise (some (.Call (.Name x p) [e] [] pos)) none pos') (tRaise1 C fl ta E) :=
  ps_raise (pos := pos') hc tk (pmk_oex (p := p) T iC tI F1 hr hb .nil pass0 hg hm ha hdb he rfl)
/-- what is behind C(y), told of the heap ahead -/
theorem spI_end {H1 : Hp} {a : Addr} {y : V} {Q : XK} (na : H1 a = none) (h : ∀ d, H1 d = none → Q (.ref C) (some d) (upd H1 d (.xd [(fl, y)]))) {E0 : XK} :
    spI C fl [.ref a, y] (upd H1 a (exo a C none)) (fun v H2 => v = .non ∧ ∃ (d : Addr) (fs : List (Str × V)), H2 a = some (exo a C (some d)) ∧ H2 d = some (exd d fs) ∧ H1 d = none ∧ Q (.ref C) (some d) (upd (del H2 a) d (.xd fs))) E0 := by
  refine ⟨a, y, rfl, upd_same, fun dx nd ne => ⟨rfl, dx, [(fl, y)], upd_same, ?_, ?_, ?_⟩⟩
  · rw [upd_ne ne, upd_same]
  · rw [upd_ne ne] at nd; exact nd
  · have n2 : H1 dx = none := by rw [upd_ne ne] at nd; exact nd
    have e : upd (del (upd (upd (upd H1 a (exo a C none)) dx (exd dx [(fl, y)])) a (exo a C (some dx))) a) dx (.xd [(fl, y)]) = upd H1 dx (.xd [(fl, y)]) := by
      funext b
      by_cases hb : b = dx
      · rw [hb, upd_same, upd_same]
      · rw [upd_ne hb, upd_ne hb]
        by_cases hba : b = a
        · rw [hba, del_same, na]
        · rw [del_ne hba, upd_ne hba, upd_ne hb, upd_ne hba]
    rw [e]
    exact h dx n2
end
/-! ### __init__(self, y): self.f = y -/
section
variable {P : Program} {w : World} {K : PySem.W.Frag} {mg : Str → Option Value} {base : Heap}
theorem init_ok1 {fI C : Addr} {qual fl s1 s2 : Str} {params : Arguments} {scope : Scope} {dV kV doc pm cdv ct oc : Value} {an od : Option Addr} {osl : Array (Option Value)} {p1 p2 p3 p4 : Pos}
    (lk : K.lookup fI = some ⟨oc, od, .func (PySem.W.fnOf "__init__" qual params [.Assign [.Attribute (.Name s1 p1) fl p2] (.Name s2 p3) p4] scope dV kV doc pm an cdv ct), osl⟩) (hcd : PySem.W.codeIn K cdv qual = true) (S : FnScope [s1, s2] [s1, s2] scope)
    (T : OexC K C) (hf : PySem.W.findIn K (.ref C) fl = some none) (v1 : Vis scope s1) (v2 : Vis scope s2) (d1 : (s1 == ("__debug__" : Str)) = false) (d2 : (s2 == ("__debug__" : Str)) = false) (d3 : (s1 == ("__classdict__" : Str)) = false) (d4 : (s2 == ("__classdict__" : Str)) = false) :
    FnOk P w K mg base CX0 1 fI (PySem.W.fnOf "__init__" qual params [.Assign [.Attribute (.Name s1 p1) fl p2] (.Name s2 p3) p4] scope dV kV doc pm an cdv ct) [s1, s2] (spI C fl) := by
  refine fn_of lk hcd S (fun vs H Q E h => by obtain ⟨a, y, rfl, _⟩ := h; rfl) fun A outer s H vs Q E room hs => ?_
  obtain ⟨a, y, rfl, ha, q⟩ := hs
  refine ⟨_, PSs.nox (pss_one (ps_ost (pv 0 rfl v1 d1 d3) (pv 1 rfl v2 d2 d4))), ?_⟩
  exact ⟨y, rfl, .ref a, rfl, a, C, rfl, T, hf, .inl ⟨ha, q⟩⟩
end
end Mw

set_option maxHeartbeats 4000000
/-! AwX: refusals: raise, defs that let them out. -/
namespace Aw
open PySem PySem.Spec PyProof.Rows L2 Mw
section
variable {Z : Zx} {E : XK} {ta : TA} {fr : AA} {C : Addr} {f nm : Str}
/-- how a refusal of the class at C, its one field f, is told -/
class XrOk (Z : Zx) (C : Addr) (f : Str) (nm : outParam Str) : Prop where
  ok : ∀ {ρ : List Addr} {H : Hp} {d : Addr} {y : V} {w : W}, H d = some (.xd [(f, y)]) → d ∉ ρ → WR Z.K ρ H y w → Z.xr ρ H (.ref C) (some d) ⟨nm, [w]⟩
def aRaise (nm : Str) (fr : AA) : AS := fun k e σ => fr e σ (fun ws σ1 => ∃ w, ws = [w] ∧ k.ex e ⟨nm, [w]⟩ σ1) (k.ex e)
instance sim_raise [x : XrOk Z C f nm] [ia : SimA Z (fun _ => E) ta fr] : SimS Z (fun _ => E) (tRaise1 C f ta E) (aRaise nm fr) := ⟨fun {ρ σ H s e k D} r er h kn kr kx =>
  ia.sim r er h (fun ρ' σ' H' vs ws g r' v h' => by
    obtain ⟨w, rfl, q⟩ := h'
    obtain ⟨y, rfl, vy⟩ := wrs1 v
    refine ⟨by simp, fun a na => spI_end na fun d nd => ?_⟩
    exact kx ρ' σ' _ s e _ _ ⟨nm, [w]⟩ (g.trans (Go.lay nd)) (r'.lay nd) ((g.trans (Go.lay nd)).er r er) (x.ok upd_same (r'.fresh nd) ((Go.lay nd).wr r' vy)) q) (kx.at_ r er)⟩
end
structure CalX (P : Program) (w : World) (Z : Zx) (mg : Str → Option Value) (base : Heap) (x : Str) (k : Nat) (ps : List Str) (mf : AF) : Prop where
  ex : ∃ (f : Addr) (fd : FuncData), PySem.W.keepIn Z.K (.ref f) = true ∧ Binds Z.K fd ps [] ∧ mg x = some (.ref f) ∧ FnOk P w Z.K mg base (L2.CX P w) k f fd ps (spA Z ps.length mf)
section
variable {P : Program} {w : World} {Z : Zx} {mg : Str → Option Value} {base : Heap} {x : Str} {k j : Nat} {ps : List Str} {mf mf' : AF}
theorem CalX.shed (c : CalX P w Z mg base x k ps mf) (h : ∀ ws σ Q X, mf' ws σ Q X → mf ws σ (fun w σ' => Told σ.length σ σ' w Q) X) : CalX P w Z mg base x k ps mf' := by
  obtain ⟨f, fd, h1, h2, h3, h4⟩ := c.ex
  exact ⟨f, fd, h1, h2, h3, FnOk.shed h4 h⟩
theorem CalX.as (c : CalX P w Z mg base x k ps mf) (h : ∀ ws σ Q X, mf' ws σ Q X → mf ws σ Q X) : CalX P w Z mg base x k ps mf' := by
  obtain ⟨f, fd, h1, h2, h3, h4⟩ := c.ex
  exact ⟨f, fd, h1, h2, h3, FnOk.as h4 h⟩
end
section
variable {X : Cx} {P : Program} {w : World} {Z : Zx} {K : PySem.W.Frag} {mg : Str → Option Value} {base : Heap} {x : Str} {k n : Nat} {ps N : List Str} {mf : AF} {p pos : Pos} {e : Expr} {es : List Expr} {t : TA} {F : XK} {st : Stmt} {f c : Addr} {fd : FuncData} {body : AS}
theorem pe_callX (c : CalX P w Z mg base x k ps mf) (e1 : X.prog = P) (e2 : X.w = w) (e3 : X.K = Z.K) (e4 : X.mg = mg) (e5 : X.base = base) (hn : ps.length = n) (hr : Room k X.A) (tk : Takes X (fun cls d _ H => F cls d H)) (hg : Gl X x) (ha : PA X (e :: es) t)
    (hdb : (x == ("__debug__" : Str)) = false := by decide) (he : starEach (e :: es) X.env = (false, eval e X.env) :: starEach es X.env := by rfl) (hpl : (backTo pos (starEach es X.env)).any (·.1) = false := by rfl) :
    PE X (.Call (.Name x p) (e :: es) [] pos) (tCall (spA Z n mf) [] F t) := by
  obtain ⟨f, fd, h1, h2, h3, h4⟩ := c.ex
  subst e1 e2 e4 e5 hn
  rw [← e3] at h1 h2 h4
  exact pe_call h4 hr hg h3 h1 h2 .nil (passes_call tk fun _ _ _ _ h => h) ha hdb he hpl
theorem fnX (D : Def Z.K x st f c fd) (S : FnScope N ps (defScope st))
    (h : ∀ (A : Around) (outer : List Env) (s : Shared) (H : Hp) (F : XK), Room k (A.deeper (envOfC x (defScope st) s.heap.objs.size f (.ref c))) → ∃ ts, PSs (By P w Z.K mg base N x st f c A outer s H F) (defBody st) ts ∧ SimS Z (fun _ => F) ts body) :
    FnOk P w Z.K mg base (L2.CX P w) (k + 1) f fd ps (spA Z ps.length (aFn N.length body)) :=
  D.okX S (fun vs H Q E h => h.1) fun A outer s H vs Q E hr q => by
    obtain ⟨ts, h1, h2⟩ := h A outer s H E hr
    exact ⟨ts, h1, body_sim q⟩
end
end Aw

set_option maxHeartbeats 4000000
/-! MwX2: isinstance(e, C), isinstance(e, (C, ..)) of a caught refusal that has fields. -/
namespace Mw
open PySem PySem.Spec PyProof.Rows L2
structure ExcF (K : PySem.W.Frag) (D : Addr) : Prop extends ExcC K D where
  cl : (PySem.W.clsIn K D).isSome = true
theorem instE {X : Cx} {a D dd : Addr} {oe : Obj} {pn pins : List (Addr × Obj)} {s : Shared} {σ : L2.St} {H : Hp} {fs : List (Str × V)} (hz : Zc (.ref D) (some dd) oe) (hf : ∃ vs, oe.data = .fields vs) (I : Inv (X.suite a ((a, oe) :: pn)) pins σ H s) (hd : H dd = some (.xd fs)) :
    ∃ od, PySem.W.InstAt s.heap a oe D (some od) := by
  obtain ⟨hget, _⟩ := I.pin (a, oe) (List.mem_append.mpr (.inl List.mem_cons_self))
  obtain ⟨vs, hv⟩ := hf
  have hx : ObjOk X.prog X.w H s.heap dd (.xd fs) := I.hok dd _ hd
  obtain ⟨mA, hns, hr⟩ := hx
  obtain ⟨od, ho, hl⟩ := lookIn_ns hns
  exact ⟨od, hget, hz.1, by unfold PySem.W.notCls; rw [hv] <;> rfl, by rw [hz.2]; exact ho⟩
/-- isinstance(e, c), isinstance(e, (c, ..)) -/
def rIsX (K : PySem.W.Frag) (D a dd : Addr) : List V → Hp → VK → Prop := fun xs H Q => (∃ fs, H dd = some (.xd fs)) ∧
  ((∃ (c : V) (cv : Value) (b : Bool), xs = [.ref a, c] ∧ (∀ u, RelV c u → u = cv) ∧ PySem.W.kitOne K (.ref D) cv = some b ∧ Q (.bl b) H) ∨
    ∃ (tp : Addr) (cs : List Addr) (b : Bool), xs = [.ref a, .ref tp] ∧ H tp = some (.tup (cs.map V.ref)) ∧ PySem.W.kitAny K (.ref D) (cs.map Value.ref) = some b ∧ Q (.bl b) H)
theorem call_isX {X : Cx} {a D dd : Addr} {oe : Obj} {pn : List (Addr × Obj)} (C : ExcF X.K D) (hz : Zc (.ref D) (some dd) oe) (hf : ∃ vs, oe.data = .fields vs) : CallR (X.suite a ((a, oe) :: pn)) (.builtin "isinstance") (rIsX X.K D a dd) := by
  intro pins s σ H xs us Q I r h
  obtain ⟨⟨fs, hd⟩, h⟩ := h
  obtain ⟨od, J⟩ := instE hz hf I hd
  have Zx := PySem.W.kitx_exc (x := a) (ox := oe) (od := some od) C.cl C.hg C.hk C.hs C.ha C.hn C.ht C.hm
  rcases h with ⟨c, cv, b, rfl, hcv, e, q⟩ | ⟨tp, cs, b, rfl, ht, e, q⟩
  · cases r with
    | cons rx rr =>
      cases rr with
      | cons rt rr =>
        cases rr
        cases rx
        have ec := hcv _ rt
        subst ec
        exact PySem.W.kia_one Zx I.kIn J e (fun z => nomatch z) fun tk => ⟨.bl b, H, I.kept (t' := tk) fun _ _ z => z, rfl, q⟩
  · cases r with
    | cons rx rr =>
      cases rr with
      | cons rt rr =>
        cases rr
        cases rx
        cases rt
        obtain ⟨_, its, rv, ot, hot, hct, n, hdt⟩ := (show ObjOk X.prog X.w H s.heap tp (.tup (cs.map V.ref)) from I.hok tp _ ht)
        have ei := vals_refs' rv
        subst ei
        obtain ⟨oc, od', odt, osl⟩ := ot
        dsimp only at hct hdt
        subst hct hdt
        exact PySem.W.kia_tup Zx I.kIn J hot e (fun z => nomatch z) fun tk => ⟨.bl b, H, I.kept (t' := tk) fun _ _ z => z, rfl, q⟩
end Mw

set_option maxHeartbeats 4000000
/-! MwX3: a lambda is made and handed to a def: but for the table of the making def all stays. -/
namespace Mw
open PySem PySem.Spec PyProof.Rows L2 LamX
section
variable {X : Cx} {pins : List (Addr × Obj)} {σ : L2.St} {H : Hp} {s : Shared}
/-- all but the one table stays -/
structure Bt (P : Addr) (q : Str) (H H1 : Hp) : Prop where
  kp : ∀ b o, H b = some o → b ≠ P → H1 b = some o
  th : ∀ b, H1 b = none → H b = none
  tb : TabS H1 P q
theorem frs_out (I : Inv X pins σ H s) {f : Addr} (hf : s.heap.objs.size ≤ f) : f ∉ frs X.stack := fun z => by
  rcases List.mem_cons.mp (I.stkSub _ z) with e1 | e1
  · have l0 := I.lt
    rw [← e1] at l0
    exact absurd (Nat.lt_of_lt_of_le l0 hf) (Nat.lt_irrefl _)
  · exact I.nofs hf e1
theorem lam_mk {c P : Addr} {ar : Arguments} {bd : Expr} {sc : Scope} {pos : Pos} {E : Value → Shared → Prop} {Q : Value → Shared → Prop} (I : Inv X pins σ H s) (TB : TabB X.base X.mg c P) (hcd : X.env.code = .ref c) (hT : TabS H P (X.env.qual ++ "<lambda>"))
    (hdf : defaultsOf ar X.env = ([], [])) (hfr : ∀ y ∈ sc.names, y.2 = .free → ∃ c, X.env.cells.lookup y.1 = some c)
    (h : ∀ (f c' : Addr) (pm ctv : Value) (H1 : Hp) (s' : Shared), Inv X pins σ H1 s' → Bt P (X.env.qual ++ "<lambda>") H H1 →
      s'.heap.get? f = some (PySem.W.kla_obj "<lambda>" (X.env.qual ++ "<lambda>") ar bd sc (cloFrom X.env.cells sc.names []) pm c' ctv) → H1 f = none → f ∉ frs X.stack → H1 c' = some (CodeO c' (X.env.qual ++ "<lambda>")) → Q (.ref f) s') :
    wpAny (model X.prog X.w) X.A (eval (.Lambda ar bd sc pos) X.env) Q E s := by
  have hT0 := hT
  obtain ⟨qs, tP, okq, inq⟩ := hT
  refine PySem.W.kla_eval hdf ?_
  have blt : s.heap.BuiltinsAt X.mg P := TB.bm.keeps I.bk
  have objP : s.heap.get? P = some { cls := .none, data := .fields qs } := I.hok P _ tP
  cases cc : codeAmong pos qs.toList with
  | some cw =>
    obtain ⟨d1, e1, oc1⟩ := inq pos cw cc
    subst e1
    refine PySem.W.kla_makeFunctionHit (mg := X.mg) (c := c) (P := P) (ps := qs) (closure_ok hfr) I.ok.glob (I.mod.glob.keeps I.bk) hcd (TB.code.keeps I.bk) objP okq cc blt fun ctv hh tk kx sz => ?_
    have J : Inv X pins σ H { s with heap := hh.push (PySem.W.kla_obj "<lambda>" (X.env.qual ++ "<lambda>") ar bd sc (cloFrom X.env.cells sc.names []) ((X.mg "__name__").getD .none) d1 ctv), toks := tk } := I.kept fun b o eb => Heap.get?_push_of_some _ (kx b o eb)
    exact h hh.objs.size d1 ((X.mg "__name__").getD .none) ctv H _ J ⟨fun _ _ z _ => z, fun _ z => z, hT0⟩ (Heap.get?_push_size _ rfl) (I.hok.fresh sz) (frs_out I sz) oc1
  | none =>
    refine PySem.W.kla_makeFunction (mg := X.mg) (c := c) (P := P) (ps := qs) (closure_ok hfr) I.ok.glob (I.mod.glob.keeps I.bk) hcd (TB.code.keeps I.bk) objP okq cc TB.gP blt fun d1 ctv hh tk kx ge lt rec htb => ?_
    obtain ⟨d2, oc, vs, t, e2, hoc, hdd, hv⟩ := rec
    cases e2
    have sz : s.heap.objs.size ≤ hh.objs.size := Nat.le_trans ge (Nat.le_of_lt lt)
    have nC : H d1 = none := I.hok.fresh ge
    have J := inv_table (t' := tk) (more := #[rawInt pos.line, rawInt pos.col, .ref d1]) (h' := hh.push (PySem.W.kla_obj "<lambda>" (X.env.qual ++ "<lambda>") ar bd sc (cloFrom X.env.cells sc.names []) ((X.mg "__name__").getD .none) d1 ctv)) I tP
      (fun b o nb eb => Heap.get?_push_of_some _ (kx b o nb eb)) (Heap.get?_push_of_some _ htb) ge ⟨oc, vs, t, Heap.get?_push_of_some _ hoc, hdd, hv⟩
    have kp : ∀ b o, H b = some o → b ≠ P → (upd (upd H P (.tbl (qs ++ #[rawInt pos.line, rawInt pos.col, .ref d1]))) d1 (CodeO d1 (X.env.qual ++ "<lambda>"))) b = some o := fun b o eb nb => by
      rw [upd_ne (ne_of_none eb nC), upd_ne nb]
      exact eb
    have eL : (qs ++ #[rawInt pos.line, rawInt pos.col, .ref d1]).toList = qs.toList ++ [rawInt pos.line, rawInt pos.col, .ref d1] := by simp
    refine h hh.objs.size d1 ((X.mg "__name__").getD .none) ctv _ _ J ⟨kp, fun b z => ?_, ?_⟩ (Heap.get?_push_size _ rfl) ?_ (frs_out I sz) upd_same
    · by_cases b1 : b = d1
      · rw [b1]; exact nC
      · by_cases b2 : b = P
        · rw [upd_ne b1, b2, upd_same] at z; cases z
        · rwa [upd_ne b1, upd_ne b2] at z
    · refine ⟨_, by rw [upd_ne (ne_of_none tP nC), upd_same], by rw [eL]; exact PySem.TriplesOk_snoc _ _ _ _ okq, fun ps' cw hcw => ?_⟩
      rw [eL] at hcw
      rcases among_app _ okq hcw with z | z
      · obtain ⟨d0, a1, a2⟩ := inq ps' cw z
        exact ⟨d0, a1, kp _ _ a2 fun z => by rw [z, tP] at a2; exact codeO_ne _ (Option.some.inj a2).symm⟩
      · exact ⟨d1, z, upd_same⟩
    · rw [upd_ne (Nat.ne_of_gt lt), upd_ne (Nat.ne_of_gt (Nat.lt_of_lt_of_le (Heap.lt_size objP) sz))]
      exact I.hok.fresh sz
end
/-- x(lambda: ..) -/
def tLm (P : Addr) (q : Str) (TT : (XK → Hp → VK → Prop) → Hp → VK → Prop) (t : XK → TE) : TE := fun σ H Q => TabS H P q ∧ ∀ H1, Bt P q H H1 → TT (fun E H' Q' => t E σ H' Q') H1 Q
section
variable {X : Cx}
theorem pe_lm {TT : (XK → Hp → VK → Prop) → Hp → VK → Prop} {x a : Str} {g c P : Addr} {k : Nat} {pg : Arguments} {bg : List Stmt} {sg : Scope} {dV kV doc pm cdv ct oc : Value} {an od : Option Addr} {osl : Array (Option Value)} {Ng : List Str}
    {ar : Arguments} {bd : Expr} {sc : Scope} {t : XK → TE} {p lpos pos : Pos} (hg : Gl X x) (hm : X.mg x = some (.ref g)) (hk : PySem.W.keepIn X.K (.ref g) = true)
    (lk : X.K.lookup g = some ⟨oc, od, .func (PySem.W.fnOf x x pg bg sg dV kV doc pm an cdv ct), osl⟩) (hcg : PySem.W.codeIn X.K cdv x = true) (hb : L2.Binds X.K (PySem.W.fnOf x x pg bg sg dV kV doc pm an cdv ct) [a] []) (Sg : FnScope Ng [a] sg) (hNg : Ng[0]? = some a) (hva : Vis sg a)
    (hG : GivesTo X Ng x sg g cdv bg a (X.env.qual ++ "<lambda>") TT) (TB : TabB X.base X.mg c P) (hcd : X.env.code = .ref c) (hr : Room (k + 2) X.A) (L : LamS X.env.scope sc) (hdf : defaultsOf ar X.env = ([], []))
    (hbn : ∀ (q : Str) (cl : List (Str × Addr)) (pm cv ctv : Value), bindArgs (PySem.W.kla_fn "<lambda>" q ar bd sc cl pm cv ctv) ⟨[], []⟩ = pure [])
    (hbd : ∀ (A : Around) (outer : List Env) (s : Shared) (H : Hp) (E : XK) (f c' : Addr), Room k (A.deeper (lamEnv X sc s.heap.objs.size f c')) → PE (lamCx X A outer s H E sc f c') bd (t E))
    (hdb : (x == ("__debug__" : Str)) = false := by decide) (hd : (a == ("__debug__" : Str)) = false := by decide) (hcx : (a == ("__classdict__" : Str)) = false := by decide) :
    PE X (.Call (.Name x p) [.Lambda ar bd sc lpos] [] pos) (tLm P (X.env.qual ++ "<lambda>") TT t) := by
  refine ⟨fun pins s σ H Q I h0 => ?_⟩
  obtain ⟨hT, h0⟩ := h0
  refine wpAny_Call_Name_kw (ld_glob I hg hm (PySem.W.callWith_K (h₀ := X.base) I.ok.mod.kin hk ?_ (by rfl) (by rfl)) hdb)
  show wpAny _ _ (spliced ((false, eval (.Lambda ar bd sc lpos) X.env) :: backTo pos (starEach [] X.env))) _ _ s
  refine Calls.spliced_cons (lam_mk I TB hcd hT hdf (L.has I.ok) fun f c' pm' ctv H1 s' J bt hf nf fr co => Calls.spliced_nil ⟨J.kIn, ?_⟩)
  have run : codeAny (model X.prog X.w) X.A (.call (.ref g) ⟨[.ref f], []⟩) (CR C8.CX0 X.stack X.prog X.w H1 s' Q C8.E0) s' := by
    refine run_ofS (N := Ng) (ps := [a]) (us := [.ref f]) (vs := [.ref f]) lk hcg Sg hr J.env0 (hb s' [.ref f] J.kIn rfl) (.cons rfl .nil) rfl fun hr1 => ?_
    obtain ⟨t1, ht1, hq1⟩ := hG f c' s' H1 Q (fun E H' Q' => t E σ H' Q') (fun W pn xe E p1 p2 tk hW => pe_act (i := 0) J L hf nf fr (hbn _ _ _ _ _) tk hW hr1 (fun A outer s H hr2 => hbd A outer s H E f c' hr2) hNg hva hd hcx) co (h0 H1 bt)
    exact ⟨t1, ht1.nox, hq1⟩
  refine wpAny_call (codeAny_mono run fun rr s2 z => ?_)
  cases rr with
  | ok fl =>
    cases fl with
    | ret u => exact J.after z
    | next => exact False.elim z
    | brk => exact False.elim z
    | cont => exact False.elim z
  | error e1 => exact (show False from z).elim
end
end Mw

set_option maxHeartbeats 4000000
/-! AwY: a lambda handed to a def that tells its answer, or the field of its refusal. -/
namespace Aw
open PySem PySem.Spec PyProof.Rows L2 Mw
section
variable {Z : Zx} {P : Addr} {q : Str}
class LamIn (Z : Zx) (P : Addr) (q : Str) : Prop where
  mem : (P, q) ∈ Z.T.ct
  one : ∀ p ∈ Z.T.ct, p.1 = P → p.2 = q
theorem tabG_eq {H H1 : Hp} {b : Addr} (h : GxR.TabG H b) (e : H1 b = H b) : GxR.TabG H1 b := by
  unfold GxR.TabG at h ⊢
  rw [e]
  exact h
/-- a lambda was made -/
theorem Rel.bt [L : LamIn Z P q] {ρ : List Addr} {σ : Sto} {H H1 : Hp} (r : Rel Z.K Z.T ρ σ H) (b : Bt P q H H1) : Go Z.T ρ H ρ H1 ∧ Rel Z.K Z.T ρ σ H1 := by
  obtain ⟨nP, ps, hP, _⟩ := r.ct _ L.mem
  have hP : H P = some (.tbl ps) := hP
  have nP : P ∉ Z.T.tb := nP
  have eq : ∀ a o, H a = some o → a ≠ P → H1 a = H a := fun a o e n => by rw [b.kp a o e n, e]
  have g : Go Z.T ρ H ρ H1 := .mk' (List.prefix_refl _) (fun _ h => .inl h) (fun a o e _ nt => .inl (b.kp a o e fun z => by rw [z, hP] at e; exact nt ps (Option.some.inj e).symm)) b.th fun a o u e => b.kp a _ e fun z => by rw [z, hP] at e; cases e
  refine ⟨g, r.len, r.nd, fun i a c h1 h2 => (r.cell i a c h1 h2).go r g.toGo0 ?_, fun p hp => ?_, fun p hp => ?_⟩
  · obtain ⟨u, hu, nu⟩ := r.has (List.mem_of_getElem? h1)
    exact eq a u hu fun z => by rw [z, hP] at hu; exact nu ps (Option.some.inj hu).symm
  · have t := r.tb p hp
    obtain ⟨qs, hq, _⟩ := id t
    exact tabG_eq t (eq p _ hq fun z => nP (z ▸ hp))
  · by_cases e : p.1 = P
    · have := L.one p hp e
      rw [e, this]
      exact ⟨nP, b.tb⟩
    · obtain ⟨qs, hq⟩ := r.lamT hp
      exact r.lam g.toGo0 hp (eq _ _ hq e)
/-- what is told of the lambda's answer, of its refusal -/
def TTo (CN : Addr) (f : Str) (cs : List Addr) : (XK → Hp → VK → Prop) → Hp → VK → Prop := fun tl H Q => ∀ p0, H p0 = none →
  tl (fun cls d H' => cls = .ref CN ∧ ∃ dd y, d = some dd ∧ H' dd = some (.xd [(f, y)]) ∧ ∀ p1, H' p1 = none → ∀ p, (upd H' p1 (.tup (cs.map V.ref))) p = none → Q (.ref p) (upd (upd H' p1 (.tup (cs.map V.ref))) p (.tup [.str "no", y]))) (upd H p0 (.tup [.str "other", .non]))
    (fun v H' => [V.str "told", v].length ≤ sizeLine ∧ ∀ p, H' p = none → Q (.ref p) (upd H' p (.tup [.str "told", v])))
class XrIn (Z : Zx) (CN : Addr) (f : Str) (nm : outParam Str) : Prop where
  inv : ∀ {ρ : List Addr} {H : Hp} {cls : Value} {od : Option Addr} {x : Xn}, Z.xr ρ H cls od x → x.cls = nm → ∃ d y w, cls = .ref CN ∧ od = some d ∧ H d = some (.xd [(f, y)]) ∧ x.fs = [w] ∧ WR Z.K ρ H y w
def aLam (nm : Str) (fb : AE) : AE := fun e σ Q _ => fb e σ (fun w σ1 => ∃ d, w = .d d ∧ Q (.d (.tuple [.str "told", d])) σ1) (fun x σ1 => x.cls = nm ∧ ∃ d, x.fs = [.d d] ∧ Q (.d (.tuple [.str "no", d])) σ1)
instance sim_lam {E : L2.St → XK} {CN : Addr} {f nm : Str} {cs : List Addr} {t : XK → TE} {fb : AE} [L : LamIn Z P q] [X : XrIn Z CN f nm] [ib : ∀ F : XK, SimE Z (fun _ => F) (t F) fb] : SimE Z E (tLm P q (TTo CN f cs) t) (aLam nm fb) := ⟨fun {ρ σ H s e Qa Ea Q} r er h kq kx => by
  refine ⟨(r.ct _ L.mem).2, fun H1 bt p0 n0 => ?_⟩
  obtain ⟨g1, r1⟩ := r.bt bt
  have g2 : Go Z.T ρ H ρ (upd H1 p0 (.tup [.str "other", .non])) := g1.trans (Go.lay n0)
  refine (ib _).sim (r1.lay n0) (g2.er r er) h (fun ρ' σ' H' v w g r' vw ⟨d, ew, qd⟩ => ?_) fun ρ' σ' H' cls od x g r' xr ⟨ex, d, ef, qd⟩ => ?_
  · subst ew
    exact ⟨by rw [sizeLine_eq]; simp, fun p n => (kq.go (g2.trans g)).layTp r' n (.cons (.str _) (.cons vw .nil)) qd rfl⟩
  · obtain ⟨dd, y, w, e1, e2, e3, e4, e5⟩ := X.inv xr ex
    rw [ef] at e4
    cases e4
    refine ⟨e1, dd, y, e2, e3, fun p1 n1 p n => ?_⟩
    have g3 : Go Z.T ρ' H' ρ' (upd H' p1 (.tup (cs.map V.ref))) := Go.lay n1
    exact (kq.go ((g2.trans g).trans g3)).layTp (r'.lay n1) n (.cons (.str _) (.cons (g3.rp r' e5) .nil)) qd rfl⟩
end
end Aw

set_option maxHeartbeats 4000000
/-! AwZ: l.extend(list); defs that are handed a lambda, told as a whole; how refusals are told. -/
namespace Aw
open PySem PySem.Spec PyProof.Rows L2 Mw
section
variable {Z : Zx}
def extendW : W → List W → Sto → QK → Prop := fun a ws σ Q => ∃ i j ys zs, a = .ref i ∧ ws = [.ref j] ∧ σ[i]? = some (.lst ys) ∧ σ[j]? = some (.lst zs) ∧ ys.length + zs.length ≤ sizeLine ∧ Q (.d .none) (σ.set i (.lst (ys ++ zs)))
instance sim_extend : SimM Z rExtend extendW := ⟨fun {ρ σ H x a xs ws Qa Q} rl va vs q kq => by
  obtain ⟨i, j, ys, zs, rfl, rfl, hc, hd, hl, q⟩ := q
  obtain ⟨ad, ha, rfl⟩ := va
  obtain ⟨v, rfl, vy⟩ := wrs1 vs
  obtain ⟨bd, hb, rfl⟩ := vy
  obtain ⟨us, e1, e2⟩ := rl.cell i ad _ ha hc
  obtain ⟨ts, f1, f2⟩ := rl.cell j bd _ hb hd
  have gp : Go Z.T ρ H ρ (upd H ad (.lst (us ++ ts))) := Go.put (List.mem_of_getElem? ha) e1
  exact ⟨ad, bd, us, ts, rfl, rfl, e1, f1, by rw [Paired.len e2, Paired.len f2]; exact hl, kq.d gp (rl.put (c := .lst (ys ++ zs)) ha ⟨_, upd_same, gp.wrs rl (paired_app e2 f2)⟩) Rp.non q⟩⟩
instance : MoM extendW := ⟨fun k ⟨i, j, ys, zs, h1, h2, h3, h4, h5, q⟩ => ⟨i, j, ys, zs, h1, h2, h3, h4, h5, k _ _ q⟩⟩
theorem r_extend {σ : Sto} {i j : Nat} {ys zs : List W} {Q : QK} (hc : σ[i]? = some (.lst ys)) (hd : σ[j]? = some (.lst zs)) (hl : ys.length + zs.length ≤ sizeLine) (q : Q (.d .none) (σ.set i (.lst (ys ++ zs)))) : extendW (.ref i) [.ref j] σ Q := ⟨i, j, ys, zs, rfl, rfl, hc, hd, hl, q⟩
/-! ### lambdas -/
def tolQ (Q : QK) (w : W) (σ1 : Sto) : Prop := ∃ d, w = .d d ∧ Q (.d (.tuple [.str "told", d])) σ1
def noQ (nm : Str) (Q : QK) (x : Xn) (σ1 : Sto) : Prop := x.cls = nm ∧ ∃ d, x.fs = [.d d] ∧ Q (.d (.tuple [.str "no", d])) σ1
theorem r_lam {nm : Str} {fb : AE} {e : Ev} {σ : Sto} {Q : QK} {X : XQ} (h : fb e σ (tolQ Q) (noQ nm Q)) : aLam nm fb e σ Q X := h
theorem tol_d {Q : QK} {d : PyData} {σ : Sto} (q : Q (.d (.tuple [.str "told", d])) σ) : tolQ Q (.d d) σ := ⟨d, rfl, q⟩
theorem no_d {nm : Str} {Q : QK} {d : PyData} {σ : Sto} (q : Q (.d (.tuple [.str "no", d])) σ) : noQ nm Q ⟨nm, [.d d]⟩ σ := ⟨rfl, d, rfl, q⟩
end
/-- a def that is handed a lambda, whatever it is called by -/
structure LamCal (Z : Zx) (mg : Str → Option Value) (x a : Str) (TT : (XK → Hp → VK → Prop) → Hp → VK → Prop) : Prop where
  ex : ∃ (g : Addr) (pg : Arguments) (bg : List Stmt) (sg : Scope) (dV kV doc pm cdv ct oc : Value) (an od : Option Addr) (osl : Array (Option Value)) (Ng : List Str), mg x = some (.ref g) ∧ PySem.W.keepIn Z.K (.ref g) = true ∧
    Z.K.lookup g = some ⟨oc, od, .func (PySem.W.fnOf x x pg bg sg dV kV doc pm an cdv ct), osl⟩ ∧ PySem.W.codeIn Z.K cdv x = true ∧ L2.Binds Z.K (PySem.W.fnOf x x pg bg sg dV kV doc pm an cdv ct) [a] [] ∧ FnScope Ng [a] sg ∧ Ng[0]? = some a ∧ Vis sg a ∧
    ∀ (X : Cx) (q : Str), X.K = Z.K → X.mg = mg → LamX.GivesTo X Ng x sg g cdv bg a q TT
theorem pe_lmC {X : Cx} {Z : Zx} {mg : Str → Option Value} {TT : (XK → Hp → VK → Prop) → Hp → VK → Prop} {x a qn : Str} {c P : Addr} {k : Nat} {ar : Arguments} {bd : Expr} {sc : Scope} {t : XK → TE} {p lpos pos : Pos} (C : LamCal Z mg x a TT) (e1 : X.K = Z.K) (e2 : X.mg = mg) (hq : X.env.qual = qn) (hg : Gl X x)
    (TB : LamX.TabB X.base X.mg c P) (hcd : X.env.code = .ref c) (hr : Room (k + 2) X.A) (L : LamX.LamS X.env.scope sc) (hdf : defaultsOf ar X.env = ([], []))
    (hbn : ∀ (q : Str) (cl : List (Str × Addr)) (pm cv ctv : Value), bindArgs (PySem.W.kla_fn "<lambda>" q ar bd sc cl pm cv ctv) ⟨[], []⟩ = pure [])
    (hbd : ∀ (A : Around) (outer : List Env) (s : Shared) (H : Hp) (E : XK) (f c' : Addr), Room k (A.deeper (LamX.lamEnv X sc s.heap.objs.size f c')) → PE (LamX.lamCx X A outer s H E sc f c') bd (t E))
    (hdb : (x == ("__debug__" : Str)) = false := by decide) (hd : (a == ("__debug__" : Str)) = false := by decide) (hcx : (a == ("__classdict__" : Str)) = false := by decide) :
    PE X (.Call (.Name x p) [.Lambda ar bd sc lpos] [] pos) (tLm P (qn ++ "<lambda>") TT t) := by
  obtain ⟨g, pg, bg, sg, dV, kV, doc, pm, cdv, ct, oc, an, od, osl, Ng, h1, h2, h3, h4, h5, h6, h7, h8, h9⟩ := C.ex
  subst e2
  rw [← e1] at h2 h3 h4 h5
  subst hq
  exact pe_lm hg h1 h2 h3 h4 h5 h6 h7 h8 (h9 X _ e1 rfl) TB hcd hr L hdf hbn hbd hdb hd hcx
theorem bx_qual {P : Program} {w : World} {K : PySem.W.Frag} {mg : Str → Option Value} {base : Heap} {N : List Str} {x : Str} {st : Stmt} {f c : Addr} {A : Around} {outer : List Env} {s : Shared} {H : Hp} {F : XK} : (Bx P w K mg base N x st f c A outer s H F).env.qual = x ++ ".<locals>." := rfl
/-! ### how refusals are told: by class and fields -/
structure Xe where
  nm : Str
  C : Addr
  fs : List Str
def xrOf (K : PySem.W.Frag) (l : List Xe) : List Addr → Hp → Value → Option Addr → Xn → Prop := fun ρ H cls od x => ∃ e ∈ l, x.cls = e.nm ∧ cls = .ref e.C ∧ ∃ (d : Addr) (ys : List V), od = some d ∧ H d = some (.xd (e.fs.zip ys)) ∧ ys.length = e.fs.length ∧ WRs K ρ H ys x.fs
section
variable {Z : Zx} {l : List Xe} {C : Addr} {f nm : Str}
theorem xr_ok (h : Z.xr = xrOf Z.K l) (m : ⟨nm, C, [f]⟩ ∈ l) : XrOk Z C f nm := ⟨fun {ρ H d y w} h1 _ h3 => by
  rw [h]
  exact ⟨_, m, rfl, rfl, d, [y], rfl, h1, rfl, .cons h3 .nil⟩⟩
theorem xr_in (h : Z.xr = xrOf Z.K l) (m : ∀ e ∈ l, e.nm = nm → e = ⟨nm, C, [f]⟩) : XrIn Z C f nm := ⟨fun {ρ H cls od x} h1 h2 => by
  rw [h] at h1
  obtain ⟨e, he, e1, e2, d, ys, e3, e4, e5, e6⟩ := h1
  have := m e he (e1 ▸ h2)
  subst this
  match ys, e5 with
  | [y], _ =>
    generalize hx : x.fs = xs at e6
    cases e6 with
    | cons a b =>
      cases b
      exact ⟨d, y, _, e2, e3, e4, rfl, a⟩⟩
end
end Aw

set_option maxHeartbeats 4000000
/-! AwK: t.index(x), range(a, b, -1), l[i:j] = list. -/
namespace Aw
open PySem PySem.Spec PyProof.Rows L2 Mw
section
variable {Z : Zx} {E : L2.St → XK} {ta tb tc : TE} {fa fb fc : AE} {t : TA} {fr : AA} {tl th : TO} {fl fh : AO}
/-! ### t.index(x), t a tuple of tuples -/
def idxW : W → List W → Sto → QK → Prop := fun a ws σ Q => ∃ ds w d j, a = .d (.tuple ds) ∧ ws = [w] ∧ dat σ w = some d ∧ SeqAt.shaped (.tuple ds) = true ∧ SeqAt.shaped d = true ∧ Fst ds d j ∧ Q (.d (.int (j : Nat))) σ
instance sim_idx : SimM Z (rIdxT Z.K) idxW := ⟨fun {ρ σ H x a xs ws Qa Q} rl va vs q kq => by
  obtain ⟨ds, w, d, j, rfl, rfl, hd, h1, h2, hf, q⟩ := q
  obtain ⟨v, rfl, vw⟩ := wrs1 vs
  have dx : Dp Z.K H x (.tuple ds) := Rp.dp va (sh_lay h1)
  obtain ⟨ad, xs, rfl, _, _⟩ := WR.tup va
  exact ⟨ad, v, d, ds, j, rfl, rfl, dx, (dat_tp rl vw hd).dp (sh_lay h2), h1, h2, hf, kq.d .refl rl (Rp.int _) q⟩⟩
instance : MoM idxW := ⟨fun k ⟨ds, w, d, j, h1, h2, h3, h4, h5, h6, q⟩ => ⟨ds, w, d, j, h1, h2, h3, h4, h5, h6, k _ _ q⟩⟩
def aBMT (ra : W → List W → Sto → QK → Prop) (fa : AE) (fr : AA) : AE := fun e σ Q X => fa e σ (fun w σ1 => (∃ ds, w = .d (.tuple ds) ∧ isRow ds = true) ∧ fr e σ1 (fun ws σ2 => ra w ws σ2 Q) X) X
instance sim_bmT {r : V → List V → Hp → VK → Prop} {ra : W → List W → Sto → QK → Prop} [im : SimM Z r ra] [ia : SimE Z E ta fa] [ir : SimA Z E t fr] : SimE Z E (tBMT r ta t) (aBMT ra fa fr) := ⟨fun r0 er h kq kx =>
  ia.sim r0 er h (fun _ _ _ _ _ g1 r1 v1 h1 => by
    obtain ⟨⟨ds, e, hrow⟩, h1⟩ := h1
    refine ⟨?_, ir.sim r1 (g1.er r0 er) h1 (fun _ _ _ _ _ g2 r2 v2 h2 => im.sim r2 (g2.wr r1 v1) v2 h2 (kq.go (g1.trans g2))) (kx.go g1)⟩
    rw [e] at v1
    obtain ⟨ad, xs, rfl, tu, _⟩ := WR.tup v1
    obtain ⟨o, h2, h3⟩ := tu.row hrow
    exact ⟨ad, o, xs, rfl, h2, h3⟩) kx⟩
instance {ra : W → List W → Sto → QK → Prop} [MoM ra] [MoE fa] [MoA fr] : MoE (aBMT ra fa fr) := ⟨fun k q => MoE.mo (f := fa) (fun _ _ ⟨h, q⟩ => ⟨h, MoA.mo (f := fr) (fun _ _ q => MoM.mo k q) q⟩) q⟩
theorem r_bmT {ra : W → List W → Sto → QK → Prop} {e : Ev} {σ : Sto} {Q : QK} {X : XQ} (h : fa e σ (fun w σ1 => (∃ ds, w = .d (.tuple ds) ∧ isRow ds = true) ∧ fr e σ1 (fun ws σ2 => ra w ws σ2 Q) X) X) : aBMT ra fa fr e σ Q X := h
theorem r_idx {ds : List PyData} {d : PyData} {j : Nat} {σ : Sto} {Q : QK} (h1 : SeqAt.shaped (.tuple ds) = true) (h2 : SeqAt.shaped d = true) (hf : Fst ds d j) (q : Q (.d (.int (j : Nat))) σ) : idxW (.d (.tuple ds)) [.d d] σ Q := ⟨ds, _, d, j, rfl, rfl, rfl, h1, h2, hf, q⟩
/-! ### range(i, j, -1) -/
def rngD (lo : Int) (n : Nat) : List W := (List.range n).map fun i => .d (.int (lo + ((i : Nat) : Int) * (-1)))
theorem it_rngD {ρ : List Addr} {H : Hp} (lo : Int) (n : Nat) : ItR Z ρ H (Itc lo (-1) n) (rngD lo n) (fun _ => True) := fun ρ' σ' H' g r st => by
  refine ⟨fun i w hw => ?_, by show n ≤ _; simp [rngD]⟩
  unfold rngD at hw
  rw [List.getElem?_map] at hw
  obtain ⟨j, hj, rfl⟩ := Option.map_eq_some_iff.mp hw
  obtain ⟨hl, ej⟩ := List.getElem?_eq_some_iff.mp hj
  have : j = i := by simpa using ej.symm
  subst this
  refine ⟨show j < n by simpa using hl, fun y H2 yl => ?_⟩
  obtain ⟨rfl, rfl⟩ := yl
  exact ⟨.refl, r, Rp.int _⟩
def aR3 (fr : AA) : AI := fun e σ R X => fr e σ (fun ws σ1 => ∃ i j : Int, ws = [.d (.int i), .d (.int j), .d (.int (-1))] ∧ (-(2 ^ 62) ≤ i ∧ i < 2 ^ 62 ∧ -(2 ^ 62) ≤ j ∧ j < 2 ^ 62) ∧ R (rngD i (i - j).toNat) (fun _ => True) σ1) X
instance sim_r3 [ir : SimA Z E t fr] : SimI Z E (iRng3 t) (aR3 fr) := ⟨fun r er h k kx =>
  ir.sim r er h (fun _ _ _ _ _ g r' v h' => by
    obtain ⟨i, j, rfl, ⟨h1, h2, h3, h4⟩, q⟩ := h'
    cases v with
    | cons v1 v2 =>
      cases v2 with
      | cons v2 v3 =>
        cases v3 with
        | cons v3 v4 =>
          cases v4
          rw [v1.int, v2.int, v3.int]
          exact ⟨i, j, -1, _, rfl, RgC.neg h1 h2 h3 h4, k _ _ _ _ _ _ g r' (it_rngD i _) q⟩) kx⟩
instance [MoA fr] : MoI (aR3 fr) := ⟨fun k q => MoA.mo (f := fr) (fun _ _ ⟨i, j, h1, h2, q⟩ => ⟨i, j, h1, h2, k _ _ _ q⟩) q⟩
theorem r_r3 {e : Ev} {σ : Sto} {R : List W → (Sto → Prop) → Sto → Prop} {X : XQ} (h : fr e σ (fun ws σ1 => ∃ i j : Int, ws = [.d (.int i), .d (.int j), .d (.int (-1))] ∧ (-(2 ^ 62) ≤ i ∧ i < 2 ^ 62 ∧ -(2 ^ 62) ≤ j ∧ j < 2 ^ 62) ∧ R (rngD i (i - j).toNat) (fun _ => True) σ1) X) : aR3 fr e σ R X := h
theorem rngD_at {lo : Int} {n i : Nat} {w : W} (h : (rngD lo n)[i]? = some w) : w = .d (.int (lo + ((i : Nat) : Int) * (-1))) ∧ i < n := by
  unfold rngD at h
  rw [List.getElem?_map] at h
  obtain ⟨j, hj, rfl⟩ := Option.map_eq_some_iff.mp h
  obtain ⟨hl, ej⟩ := List.getElem?_eq_some_iff.mp hj
  have : j = i := by simpa using ej.symm
  subst this
  exact ⟨rfl, by simpa using hl⟩
theorem rngD_len (lo : Int) (n : Nat) : (rngD lo n).length = n := by simp [rngD]
/-! ### l[i:j] = m -/
def aSlSet (fd : AE) (fl fh : AO) (fv : AE) : AS := fun k e σ => fv e σ (fun w σ1 => fd e σ1 (fun d σ2 => fl e σ2 (fun l σ3 => fh e σ3 (fun u σ4 => ∃ a b xs ys i j, d = .ref a ∧ w = .ref b ∧ a ≠ b ∧ l = some i ∧ u = some j ∧ σ4[a]? = some (.lst xs) ∧ σ4[b]? = some (.lst ys) ∧ 0 ≤ i ∧ i ≤ j ∧ j ≤ xs.length ∧ xs.length + ys.length ≤ sizeLine ∧
  k.nx e (σ4.set a (.lst (xs.take i.toNat ++ ys ++ xs.drop j.toNat)))) (k.ex e)) (k.ex e)) (k.ex e)) (k.ex e)
instance sim_slset [ia : SimE Z E ta fa] [il : SimO Z E tl fl] [ih : SimO Z E th fh] [ic : SimE Z E tc fc] : SimS Z E (sSlSet ta tl th tc) (aSlSet fa fl fh fc) := ⟨fun {ρ σ H s e k D} r er h kn kr kx =>
  ic.sim r er h (fun _ _ _ vv ww g1 r1 v1 h1 => ia.sim r1 (g1.er r er) h1 (fun _ _ _ _ _ g2 r2 v2 h2 => il.sim r2 ((g1.trans g2).er r er) h2 (fun _ _ _ _ g3 r3 h3 => ih.sim r3 (((g1.trans g2).trans g3).er r er) h3 (fun ρ4 σ4 H4 u g4 r4 h4 => by
    obtain ⟨a, b, xs, ys, i, j, rfl, rfl, hne, rfl, rfl, ha, hb, h0, hij, hj, hz, q⟩ := h4
    obtain ⟨aa, haa, rfl⟩ := (g3.trans g4).wr r2 v2
    obtain ⟨ab, hab, rfl⟩ := ((g2.trans g3).trans g4).wr r1 v1
    obtain ⟨us, e1, e2⟩ := r4.cell a aa _ haa ha
    obtain ⟨vs, f1, f2⟩ := r4.cell b ab _ hab hb
    have gp : Go Z.T ρ4 H4 ρ4 (upd H4 aa (.lst (us.take i.toNat ++ vs ++ us.drop j.toNat))) := Go.put (List.mem_of_getElem? haa) e1
    have gg := (((g1.trans g2).trans g3).trans g4).trans gp
    have lx := Paired.len e2
    have ly := Paired.len f2
    refine ⟨aa, ab, us, vs, i, j, rfl, rfl, rfl, rfl, e1, f1, ?_, h0, hij, by rw [lx]; exact hj, by rw [lx, ly]; exact hz, ?_⟩
    · intro z
      subst z
      exact hne ((List.getElem?_inj (List.getElem?_eq_some_iff.mp haa).1 r4.nd).mp (haa.trans hab.symm))
    · exact kn _ _ _ _ _ gg (r4.put (c := .lst (xs.take i.toNat ++ ys ++ xs.drop j.toNat)) haa ⟨_, upd_same, gp.wrs r4 (paired_app (paired_app (paired_take _ e2) f2) (paired_drop _ e2))⟩) (gg.er r er) q)
    ((kx.go ((g1.trans g2).trans g3)).at_ r3 (((g1.trans g2).trans g3).er r er))) ((kx.go (g1.trans g2)).at_ r2 ((g1.trans g2).er r er))) ((kx.go g1).at_ r1 (g1.er r er))) (kx.at_ r er)⟩
theorem r_slset {e : Ev} {σ : Sto} {k : AK} (h : fc e σ (fun w σ1 => fa e σ1 (fun d σ2 => fl e σ2 (fun l σ3 => fh e σ3 (fun u σ4 => ∃ a b xs ys i j, d = .ref a ∧ w = .ref b ∧ a ≠ b ∧ l = some i ∧ u = some j ∧ σ4[a]? = some (.lst xs) ∧ σ4[b]? = some (.lst ys) ∧ 0 ≤ i ∧ i ≤ j ∧ j ≤ xs.length ∧ xs.length + ys.length ≤ sizeLine ∧
  k.nx e (σ4.set a (.lst (xs.take i.toNat ++ ys ++ xs.drop j.toNat)))) (k.ex e)) (k.ex e)) (k.ex e)) (k.ex e)) : aSlSet fa fl fh fc k e σ := h
instance [MoE fa] [MoO fl] [MoO fh] [MoE fc] : MoS (aSlSet fa fl fh fc) := ⟨fun {k k' e σ} kn kr kx q => by
  unfold aSlSet at q ⊢
  rw [← kx]
  exact MoE.mo (f := fc) (fun _ _ q => MoE.mo (f := fa) (fun _ _ q => MoO.mo (f := fl) (fun _ _ q => MoO.mo (f := fh) (fun _ _ ⟨a, b, xs, ys, i, j, h1, h2, h3, h4, h5, h6, h7, h8, h9, h10, h11, q⟩ => ⟨a, b, xs, ys, i, j, h1, h2, h3, h4, h5, h6, h7, h8, h9, h10, h11, kn _ _ q⟩) q) q) q) q⟩
end
end Aw

set_option maxHeartbeats 8000000
set_option synthInstance.maxHeartbeats 2000000
set_option synthInstance.maxSize 100000
/-! L4P: k04: its own defs as abstract programs (generated). -/
namespace Lw
open PySem PySem.Spec PyProof.Rows L2 Mw Aw
noncomputable abbrev p4Ito : AS := (aRet (aAndV (aIsi "tuple" (aVar 1)) (aOp (ra2 (eqF false)) (aCB lenW (aCons (aVar 1) aNil)) (aVar 0))))
noncomputable abbrev p4Num : AS := (aRet (aAndV (aIsi "int" (aVar 0)) (aNotV (aIsi "bool" (aVar 0)))))
noncomputable abbrev p4Sml : AS := (aRet (aChain (ra2 (ordF fLe)) (ra2 (ordF fLe)) (aD (.str "a")) (aVar 0) (aD (.str "z"))))
noncomputable abbrev p4Wrd (fSml : AF) : AS := (aSeq (aIfS (aNot (aTest (aIsi "str" (aVar 0))))
    (aRet (aD (.bool false)))
    aNext)
  (aRet (aAndV (aChain (ra2 (ordF fLe)) (ra2 (ordF fLe)) (aD (.int 1)) (aCB lenW (aCons (aVar 0) aNil)) (aD (.int 8))) (aAllG (aIt (aVar 0)) (agN 1) aYes (aCall fSml 1 (aCons (aVar 1) aNil)) [1] true))))
noncomputable abbrev p4Isn (fWrd fNum fIto : AF) : AS := (aSeq (aIfS (aNot (aTest (aCall fIto 2 (aCons (aD (.int 2)) (aCons (aVar 0) aNil)))))
    (aRet (aD (.bool false)))
    aNext)
  (aRet (aAndV (aCall fNum 1 (aCons (aOp ixW (aVar 0) (aD (.int 0))) aNil)) (aAndV (aOp (ra2 (ordF fGe)) (aOp ixW (aVar 0) (aD (.int 0))) (aD (.int 1))) (aCall fWrd 1 (aCons (aOp ixW (aVar 0) (aD (.int 1))) aNil))))))
noncomputable abbrev p4Eby : AS := (aSeq (aAsg (aDcT (aIt (aVar 0)) (agN 3) aYes (aVar 3) (aD (.bool true)) [3]) (agN 2))
  (aSeq (aFor (aIt (aVar 0)) (agN 3)
    (aFor (aIt (aOp ixW (aVar 1) (aVar 3))) (agN 4)
    (aDPut (aVar 2) (aVar 4) (aD (.bool true)))))
  (aRet (aVar 2))))
noncomputable abbrev p4Kno (fEby : AF) : AS := (aSeq (aAsg (aDNew true) (agN 1))
  (aSeq (aFor (aIt (aVar 0)) (agN 2)
    (aDPut (aVar 1) (aOp ixW (aVar 2) (aD (.int 0))) (aCall fEby 2 (aCons (aOp ixW (aVar 2) (aD (.int 2))) (aCons (aVar 1) aNil)))))
  (aRet (aVar 1))))
noncomputable abbrev p4Cho (fIsn : AF) : AS := (aSeq (aIfS (aTest (aCall fIsn 1 (aCons (aVar 1) aNil)))
    (aFor (aIt (aVar 0)) (agN 2)
    (aIfS (aTest (aOp (ra2 (eqF false)) (aOp ixW (aVar 2) (aD (.int 0))) (aVar 1)))
    (aRet (aVar 2))
    aNext))
    aNext)
  (aRaise "NoName" (aCons (aVar 1) aNil)))
noncomputable abbrev p4Knw (fKno fCho : AF) : AS := (aSeq (aAsg (aCall fCho 2 (aCons (aVar 0) (aCons (aVar 1) aNil))) (agN 2))
  (aSeq (aAsg (aOp ixW (aCall fKno 1 (aCons (aVar 0) aNil)) (aOp ixW (aVar 2) (aD (.int 0)))) (agN 3))
  (aRet (aTupG (aIt (aVar 0)) (agN 4) (aTest (aOp (inW false) (aOp ixW (aVar 4) (aD (.int 0))) (aVar 3))) (aVar 4) [4]))))
noncomputable abbrev p4Kns (fKno fCho : AF) : AS := (aSeq (aAsg (aCall fCho 2 (aCons (aVar 0) (aCons (aVar 1) aNil))) (agN 3))
  (aSeq (aAsg (aCall fCho 2 (aCons (aVar 0) (aCons (aVar 2) aNil))) (agN 4))
  (aRet (aOp (inW false) (aOp ixW (aVar 4) (aD (.int 0))) (aOp ixW (aCall fKno 1 (aCons (aVar 0) aNil)) (aOp ixW (aVar 3) (aD (.int 0))))))))
noncomputable abbrev p4Due (fLedger : AF) : AS := (aSeq (aPar 3 4 (aCons (aOp ixW (aVar 0) (aD (.str "changes"))) (aCons (aOp ixW (aVar 0) (aD (.str "knows"))) aNil)))
  (aSeq (aIfS (aTest (aOp (inW true) (aVar 1) (aVar 3)))
    (aRet (aLst (aCons (aTup (aCons (aD (.str "no")) (aCons (aVar 1) aNil))) (aCons (aTup (aCons (aD (.str "no")) (aCons (aVar 1) aNil))) (aCons (aTup (aCons (aD (.str "no")) (aCons (aVar 1) aNil))) aNil)))))
    aNext)
  (aSeq (aAsg (aIf (aTest (aOp (inW false) (aVar 2) (aVar 3))) (aTup (aCons (aD (.str "told")) (aCons (aOp (inW false) (aVar 2) (aOp ixW (aVar 4) (aVar 1))) aNil))) (aTup (aCons (aD (.str "no")) (aCons (aVar 2) aNil)))) (agN 5))
  (aRet (aLst (aCons (aTup (aCons (aD (.str "told")) (aCons (aOp ixW (aVar 3) (aVar 1)) aNil))) (aCons (aTup (aCons (aD (.str "told")) (aCons (aCall fLedger 2 (aCons (aVar 0) (aCons (aOp ixW (aVar 4) (aVar 1)) aNil))) aNil))) (aCons (aVar 5) aNil))))))))
noncomputable abbrev p4Asked (fKns fKnw fCho : AF) : AS := (aSeq (aAsg (aLstC (aCons (aLam "NoName" (aCall fCho 2 (aCons (aVar 0) (aCons (aVar 1) aNil)))) aNil)) (agN 3))
  (aSeq (aDrop (aBM "list" appendW (aVar 3) (aCons (aLam "NoName" (aCall fKnw 2 (aCons (aVar 0) (aCons (aVar 1) aNil)))) aNil)))
  (aSeq (aDrop (aBM "list" appendW (aVar 3) (aCons (aLam "NoName" (aCall fKns 3 (aCons (aVar 0) (aCons (aVar 1) (aCons (aVar 2) aNil))))) aNil)))
  (aRet (aVar 3)))))
noncomputable abbrev p4Nms (fDraw : AF) : AS := (aSeq (aAsg (aCB srtW (aCons (aOp ixW (aVar 1) (aD (.str "changes"))) aNil)) (agN 3))
  (aSeq (aAsg (aLcC (aR1 (aCons (aOp (ra2 mulD) (aD (.int 3)) (aCB intW (aCons (aOp (ra2 (eqF true)) (aVar 3) (aLst aNil)) aNil))) aNil)) (agN 5) aYes (aOp ixW (aVar 3) (aCall fDraw 2 (aCons (aVar 0) (aCons (aCB lenW (aCons (aVar 3) aNil)) aNil)))) [5]) (agN 4))
  (aSeq (aFor (aR1 (aCons (aD (.int 3)) aNil)) (agN 5)
    (aSeq (aAsg (aTup (aCons (aOp (ra2 addD) (aD (.int 1)) (aCall fDraw 2 (aCons (aVar 0) (aCons (aD (.int 17)) aNil)))) (aCons (aOp ixW (aVar 2) (aCall fDraw 2 (aCons (aVar 0) (aCons (aCB lenW (aCons (aVar 2) aNil)) aNil)))) aNil))) (agN 6))
  (aDrop (aBM "list" appendW (aVar 4) (aCons (aIf (aTest (aOp (inW false) (aVar 6) (aVar 3))) (aTup (aCons (aD (.int 99)) (aCons (aOp ixW (aVar 6) (aD (.int 1))) aNil))) (aVar 6)) aNil)))))
  (aRet (aVar 4)))))
noncomputable abbrev p4Law (fAsked fDue fNms fLedger fWorld fDraw fWords fFeed : AF) : AS := (aSeq (aAsg (aCall fFeed 1 (aCons (aVar 0) aNil)) (agN 1))
  (aSeq (aAsg (aCall fWords 2 (aCons (aVar 1) (aCons (aOp (ra2 addD) (aD (.int 1)) (aCall fDraw 2 (aCons (aVar 1) (aCons (aD (.int 6)) aNil)))) aNil))) (agN 2))
  (aSeq (aAsg (aCall fWorld 3 (aCons (aVar 1) (aCons (aVar 2) (aCons (aCall fDraw 2 (aCons (aVar 1) (aCons (aD (.int 17)) aNil))) aNil)))) (agN 3))
  (aSeq (aAsg (aCall fLedger 2 (aCons (aVar 3) (aCons (aCB listKW (aCons (aOp ixW (aVar 3) (aD (.str "changes"))) aNil)) aNil))) (agN 4))
  (aSeq (aAsg (aCB reprW (aCons (aVar 4) aNil)) (agN 5))
  (aSeq (aAsg (aCall fNms 3 (aCons (aVar 1) (aCons (aVar 3) (aCons (aVar 2) aNil)))) (agN 6))
  (aSeq (aAsg (aLstC aNil) (agN 7))
  (aSeq (aFor (aIt (aVar 6)) (agN 8)
    (aDrop (aBM "list" extendW (aVar 7) (aCons (aLcC (aIt (aVar 6)) (agN 9) aYes (aTup (aCons (aVar 8) (aCons (aVar 9) aNil))) [9]) aNil))))
  (aSeq (aFor (aIt (aOp (ra2 addD) (aVar 7) (aStp (aVar 7) (aUn (ra1 negD) (aD (.int 1)))))) (agT 2 (agCons (agN 8) (agCons (agN 9) agNil)))
    (aIfS (aTest (aOp (ra2 (eqF true)) (aCB reprW (aCons (aCall fAsked 3 (aCons (aVar 4) (aCons (aVar 8) (aCons (aVar 9) aNil)))) aNil)) (aCB reprW (aCons (aCall fDue 3 (aCons (aVar 3) (aCons (aVar 8) (aCons (aVar 9) aNil)))) aNil))))
    (aRet (aD (.bool false)))
    aNext))
  (aRet (aOp (ra2 (eqF false)) (aCB reprW (aCons (aVar 4) aNil)) (aVar 5))))))))))))
end Lw

set_option maxHeartbeats 4000000
/-! L4A: k04: change_of, known, knows told or refused; what is due, what is asked. -/
namespace Lw
open PySem PySem.Spec PyProof.Rows L2 Mw Aw
/-! ### change_of -/
def f4Cho : AF := fun ws σ Q X => ∃ (M : List Ch) (n : Nm), ws = [.d (ledD M), .d (nmD n)] ∧ (names M).Nodup ∧ NmK n ∧ (∀ d ∈ M, NmOk d.nm) ∧ (∀ c, findC M n = some c → Q (.d (Mw.chD c)) σ) ∧ (findC M n = none → X ⟨"NoName", [.d (nmD n)]⟩ σ)
instance : MoF f4Cho := ⟨fun k ⟨a, b, h, h1, h2, h3, q, x⟩ => ⟨a, b, h, h1, h2, h3, fun c hc => k _ _ (q c hc), x⟩⟩
/-! ### known -/
def f4Knw : AF := fun ws σ Q X => ∃ zs cs A n, ws = [.d (ledD (ledP cs A)), .d (nmD n)] ∧ Wld zs cs ∧ ClP cs A ∧ NmK n ∧ (∀ c ∈ cs, c.nm = n → n ∈ A → Q (.d (ledD (ledP cs c.kn))) σ) ∧ (n ∉ A → X ⟨"NoName", [.d (nmD n)]⟩ σ)
instance : MoF f4Knw := ⟨fun k ⟨a, b, c, d, h, h1, h2, h3, q, x⟩ => ⟨a, b, c, d, h, h1, h2, h3, fun y h4 h5 h6 => k _ _ (q y h4 h5 h6), x⟩⟩
/-! ### knows -/
def f4Kns : AF := fun ws σ Q X => ∃ zs cs A n m, ws = [.d (ledD (ledP cs A)), .d (nmD n), .d (nmD m)] ∧ Wld zs cs ∧ ClP cs A ∧ NmK n ∧ NmK m ∧ (∀ c ∈ cs, c.nm = n → n ∈ A → m ∈ A → Q (.d (.bool (decide (m ∈ c.kn)))) σ) ∧ (n ∉ A → X ⟨"NoName", [.d (nmD n)]⟩ σ) ∧ (n ∈ A → m ∉ A → X ⟨"NoName", [.d (nmD m)]⟩ σ)
instance : MoF f4Kns := ⟨fun k ⟨a, b, c, d, m, h, h1, h2, h3, h4, q, x⟩ => ⟨a, b, c, d, m, h, h1, h2, h3, h4, fun y h4 h5 h6 h7 => k _ _ (q y h4 h5 h6 h7), x⟩⟩
/-! ### what is due -/
abbrev noD (n : Nm) : PyData := .tuple [.str "no", nmD n]
abbrev tolD (d : PyData) : PyData := .tuple [.str "told", d]
def ask1 (cs : List Ch) (n : Nm) : PyData := match findC cs n with
  | some c => tolD (Mw.chD c)
  | none => noD n
def ask2 (cs : List Ch) (n : Nm) : PyData := match findC cs n with
  | some c => tolD (ledD (ledP cs c.kn))
  | none => noD n
def ask3 (cs : List Ch) (n m : Nm) : PyData := match findC cs n with
  | some c => if m ∈ names cs then tolD (.bool (decide (m ∈ c.kn))) else noD m
  | none => noD n
abbrev askD (cs : List Ch) (n m : Nm) : PyData := .list [ask1 cs n, ask2 cs n, ask3 cs n m]
def f4Due : AF := fun ws σ Q _ => ∃ zs cs w n m, ws = [.ref w, .d (nmD n), .d (nmD m)] ∧ WdA σ w cs ∧ Wld zs cs ∧ NmK n ∧ NmK m ∧ Q (.d (askD cs n m)) σ
instance : MoF f4Due := ⟨fun k ⟨a, b, c, d, m, h, h1, h2, h3, h4, q⟩ => ⟨a, b, c, d, m, h, h1, h2, h3, h4, k _ _ q⟩⟩
/-! ### what is asked -/
def f4Asked : AF := fun ws σ Q _ => ∃ zs cs A n m, ws = [.d (ledD (ledP cs A)), .d (nmD n), .d (nmD m)] ∧ Wld zs cs ∧ ClP cs A ∧ (∀ x ∈ names cs, x ∈ A) ∧ NmK n ∧ NmK m ∧ Q (.d (askD cs n m)) σ
instance : MoF f4Asked := ⟨fun k ⟨a, b, c, d, m, h, h1, h2, h3, h4, h5, q⟩ => ⟨a, b, c, d, m, h, h1, h2, h3, h4, h5, k _ _ q⟩⟩
section
variable {zs : List Str} {cs : List Ch} {A : List Nm} {n m : Nm} {σ : Sto} {Q : QK}
end
end Lw

set_option maxHeartbeats 4000000
/-! L4B: k04: the names that are asked about; the law. -/
namespace Lw
open PySem PySem.Spec PyProof.Rows L2 Mw Aw
theorem r_lcC {ai : AI} {ag : AG} {ft : AT} {fa : AE} {vs : List Nat} {e : Ev} {σ : Sto} {Q : QK} {X : XQ} (h : ai e σ (fun items stay σ1 => lcGo ag ft fa (wipeE e vs) σ1.length stay X (fun σf => Q (.ref σ1.length) σf) items (σ1 ++ [.lst []])) X) : aLcC ai ag ft fa vs e σ Q X := h
def f4Nms : AF := fun ws σ Q _ => ∃ F w cs zs c, ws = [.ref F, .ref w, .d (ssD zs)] ∧ σ[F]? = some c ∧ IsFeed c ∧ Off F w ∧ WdA σ w cs ∧ Wld zs cs ∧ 0 < zs.length ∧ zs.length ≤ 6 ∧
  ∀ (nms : List Nm) (c' : Cell), nms.length ≤ 6 → (∀ m ∈ nms, NmK m) → IsFeed c' → Q (.d (.list (nms.map nmD))) (σ.set F c')
instance : MoF f4Nms := ⟨fun k ⟨F, n, cs, zs, c, h1, h2, h3, h4, h5, h6, h7, h8, q⟩ => ⟨F, n, cs, zs, c, h1, h2, h3, h4, h5, h6, h7, h8, fun a b c d e => k _ _ (q a b c d e)⟩⟩
/-! ### the law -/
abbrev prD (p : Nm × Nm) : PyData := .tuple [nmD p.1, nmD p.2]
abbrev prW (ps : List (Nm × Nm)) : List W := ps.map fun p => .d (prD p)
end Lw

set_option maxHeartbeats 8000000
set_option synthInstance.maxHeartbeats 2000000
set_option synthInstance.maxSize 100000
/-! L13P: k13: its own defs as abstract programs (generated). -/
namespace Lw
open PySem PySem.Spec PyProof.Rows L2 Mw Aw
noncomputable abbrev p13Exd : AS := (aRet (aOp (ra2 addD) (aOp (ra2 addD) (aSl (aVar 0) aNoP (aPart (aVar 1))) (aTup (aCons (aOp ixW (aVar 0) (aOp (ra2 addD) (aVar 1) (aD (.int 1)))) (aCons (aOp ixW (aVar 0) (aVar 1)) aNil)))) (aSl (aVar 0) (aPart (aOp (ra2 addD) (aVar 1) (aD (.int 2)))) aNoP)))
noncomputable abbrev p13Exp (fExd : AF) : AS := (aSeq (aAsg (aVar 1) (agN 3))
  (aSeq (aAsg (aLstC aNil) (agN 4))
  (aSeq (aFor (aEnum (aCons (aVar 2) aNil)) (agT 2 (agCons (agN 5) (agCons (agN 6) agNil)))
    (aFor (aR3 (aCons (aOp (ra2 subD) (aBMT idxW (aVar 3) (aCons (aVar 6) aNil)) (aD (.int 1))) (aCons (aOp (ra2 subD) (aVar 5) (aD (.int 1))) (aCons (aUn (ra1 negD) (aD (.int 1))) aNil)))) (agN 7)
    (aSeq (aAsg (aCall fExd 2 (aCons (aVar 3) (aCons (aVar 7) aNil))) (agN 3))
  (aDrop (aBM "list" appendW (aVar 4) (aCons (aVar 7) aNil))))))
  (aRet (aCB tupleW (aCons (aVar 4) aNil))))))
noncomputable abbrev p13Wide : AS := (aSeq (aAsg (aDisp [((aD (.str "changes")), (aDNew true)), ((aD (.str "knows")), (aDNew true)), ((aD (.str "last")), (aDNew false)), ((aD (.str "hangs")), (aLstC aNil))]) (agN 1))
  (aSeq (aFor (aIt (aVar 0)) (agN 2)
    (aSeq (aDPut (aOp ixW (aVar 1) (aD (.str "changes"))) (aTup (aCons (aD (.int 1)) (aCons (aVar 2) aNil))) (aTup (aCons (aTup (aCons (aD (.int 1)) (aCons (aVar 2) aNil))) (aCons (aVar 2) (aCons (aTup aNil) (aCons (aTup (aCons (aD (.str "put")) (aCons (aD (.int 0)) (aCons (aD (.str "a")) aNil)))) aNil))))))
  (aDPut (aOp ixW (aVar 1) (aD (.str "knows"))) (aTup (aCons (aD (.int 1)) (aCons (aVar 2) aNil))) (aLst aNil))))
  (aRet (aVar 1))))
noncomputable abbrev p13Rgt : AS := (aSeq (aIfS (aOr (aNot (aTest (aIsi "tuple" (aVar 3)))) (aTest (aOp (ra2 (eqF true)) (aLc (aIt (aVar 3)) (agN 4) (aOr (aNot (aTest (aIsi "int" (aVar 4)))) (aTest (aIsi "bool" (aVar 4)))) (aVar 4) [4]) (aLst aNil))))
    (aRet (aD (.bool false)))
    aNext)
  (aSeq (aAsg (aCB listCW (aCons (aVar 1) aNil)) (agN 5))
  (aSeq (aFor (aIt (aVar 3)) (agN 4)
    (aSeq (aIfS (aOr (aNot (aTest (aChain (ra2 (ordF fLe)) (ra2 (ordF fLt)) (aD (.int 0)) (aVar 4) (aOp (ra2 subD) (aCB lenW (aCons (aVar 5) aNil)) (aD (.int 1)))))) (aTest (aOp (inW false) (aOp ixW (aVar 5) (aVar 4)) (aOp ixW (aOp ixW (aVar 0) (aD (.str "knows"))) (aOp ixW (aVar 5) (aOp (ra2 addD) (aVar 4) (aD (.int 1))))))))
    (aRet (aD (.bool false)))
    aNext)
  (aSlSet (aVar 5) (aPart (aVar 4)) (aPart (aOp (ra2 addD) (aVar 4) (aD (.int 2)))) (aLstC (aCons (aOp ixW (aVar 5) (aOp (ra2 addD) (aVar 4) (aD (.int 1)))) (aCons (aOp ixW (aVar 5) (aVar 4)) aNil))))))
  (aSeq (aAsg (aD (.int 0)) (agN 6))
  (aSeq (aFor (aR1 (aCons (aCB lenW (aCons (aVar 1) aNil)) aNil)) (agN 7)
    (aAsg (aOp (ra2 addD) (aVar 6) (aCB lenW (aCons (aLc (aIt (aSl (aVar 1) aNoP (aPart (aVar 7)))) (agN 8) (aTest (aOp (ra2 (ordF fGt)) (aBMT idxW (aVar 2) (aCons (aVar 8) aNil)) (aBMT idxW (aVar 2) (aCons (aOp ixW (aVar 1) (aVar 7)) aNil)))) (aVar 8) [8]) aNil))) (agN 6)))
  (aRet (aAndV (aOp (ra2 (eqF false)) (aCB tupleW (aCons (aVar 5) aNil)) (aVar 2)) (aOp (ra2 (eqF false)) (aCB lenW (aCons (aVar 3) aNil)) (aVar 6)))))))))
noncomputable abbrev p13Law (fRgt fExp fRoad fLedger fDraw fWide fWorld fWords fFeed : AF) : AS := (aSeq (aAsg (aCall fFeed 1 (aCons (aVar 0) aNil)) (agN 1))
  (aSeq (aAsg (aCall fWords 2 (aCons (aVar 1) (aCons (aOp (ra2 addD) (aD (.int 1)) (aCall fDraw 2 (aCons (aVar 1) (aCons (aD (.int 6)) aNil)))) aNil))) (agN 2))
  (aSeq (aIfS (aTest (aOp (ra2 (eqF false)) (aCall fDraw 2 (aCons (aVar 1) (aCons (aD (.int 6)) aNil))) (aD (.int 0))))
    (aAsg (aCall fWide 1 (aCons (aVar 2) aNil)) (agN 3))
    (aAsg (aCall fWorld 3 (aCons (aVar 1) (aCons (aVar 2) (aCons (aCall fDraw 2 (aCons (aVar 1) (aCons (aD (.int 17)) aNil))) aNil)))) (agN 3)))
  (aSeq (aAsg (aCB srtW (aCons (aOp ixW (aVar 3) (aD (.str "changes"))) aNil)) (agN 4))
  (aSeq (aAsg (aCall fLedger 2 (aCons (aVar 3) (aCons (aVar 4) aNil))) (agN 5))
  (aSeq (aAsg (aLc (aR1 (aCons (aD (.int 3)) aNil)) (agN 7) aYes (aCall fRoad 3 (aCons (aVar 1) (aCons (aVar 3) (aCons (aVar 4) aNil)))) [7]) (agN 6))
  (aSeq (aAsg (aCB reprW (aCons (aTup (aCons (aVar 5) (aCons (aVar 6) aNil))) aNil)) (agN 8))
  (aSeq (aFor (aIt (aTup (aCons (aTup (aCons (aD (.int 0)) (aCons (aD (.int 1)) aNil))) (aCons (aTup (aCons (aD (.int 1)) (aCons (aD (.int 0)) aNil))) (aCons (aTup (aCons (aD (.int 1)) (aCons (aD (.int 2)) aNil))) (aCons (aTup (aCons (aD (.int 2)) (aCons (aD (.int 1)) aNil))) (aCons (aTup (aCons (aD (.int 2)) (aCons (aD (.int 0)) aNil))) (aCons (aTup (aCons (aD (.int 0)) (aCons (aD (.int 2)) aNil))) (aCons (aTup (aCons (aD (.int 2)) (aCons (aD (.int 2)) aNil))) (aCons (aTup (aCons (aD (.int 0)) (aCons (aD (.int 1)) aNil))) aNil)))))))))) (agT 2 (agCons (agN 9) (agCons (agN 10) agNil)))
    (aSeq (aAsg (aCall fExp 3 (aCons (aVar 5) (aCons (aOp ixW (aVar 6) (aVar 9)) (aCons (aOp ixW (aVar 6) (aVar 10)) aNil)))) (agN 11))
  (aIfS (aNot (aTest (aCall fRgt 4 (aCons (aVar 3) (aCons (aOp ixW (aVar 6) (aVar 9)) (aCons (aOp ixW (aVar 6) (aVar 10)) (aCons (aVar 11) aNil)))))))
    (aRet (aD (.bool false)))
    aNext)))
  (aRet (aOp (ra2 (eqF false)) (aCB reprW (aCons (aTup (aCons (aVar 5) (aCons (aVar 6) aNil))) aNil)) (aVar 8)))))))))))
end Lw

set_option maxHeartbeats 4000000
/-! L13A: k13: exchanges of neighbours; exchange_paper. -/
namespace Lw
open PySem PySem.Spec PyProof.Rows L2 Mw Aw
/-! ### walks by exchanges -/
def swp {α : Type} (l : List α) (k : Nat) : List α := l.take k ++ (l[k + 1]?.toList ++ l[k]?.toList) ++ l.drop (k + 2)
theorem swp_at {α : Type} (A : List α) (b x : α) (C : List α) : swp (A ++ b :: x :: C) A.length = A ++ x :: b :: C := by
  unfold swp
  have h0 : (A ++ b :: x :: C)[A.length]? = some b := by rw [List.getElem?_append_right (Nat.le_refl _), Nat.sub_self]; rfl
  have h1 : (A ++ b :: x :: C)[A.length + 1]? = some x := by rw [List.getElem?_append_right (by omega), Nat.add_sub_cancel_left]; rfl
  have h2 : (A ++ b :: x :: C).drop (A.length + 2) = C := by
    rw [show A ++ b :: x :: C = (A ++ [b, x]) ++ C by simp, List.drop_append_of_le_length (by simp)]
    rw [List.drop_of_length_le (by simp)]
    rfl
  have h3 : (A ++ b :: x :: C).take A.length = A := by rw [List.take_append_of_le_length (Nat.le_refl _), List.take_length]
  rw [h0, h1, h2, h3]
  simp
def wks {α : Type} (l : List α) (ps : List Nat) : List α := ps.foldl swp l
theorem wks_snoc {α : Type} (l : List α) (ps : List Nat) (p : Nat) : wks l (ps ++ [p]) = swp (wks l ps) p := by simp [wks]
def Wkp (kn : Nm → List Nm) (l : List Nm) (ps : List Nat) : Prop := ∀ (i p : Nat), ps[i]? = some p → ∃ A b x C, wks l (ps.take i) = A ++ b :: x :: C ∧ A.length = p ∧ b ∉ kn x
theorem Wkp.snoc {kn : Nm → List Nm} {l : List Nm} {ps : List Nat} {A C : List Nm} {b x : Nm} (w : Wkp kn l ps) (e : wks l ps = A ++ b :: x :: C) (h : b ∉ kn x) : Wkp kn l (ps ++ [A.length]) ∧ wks l (ps ++ [A.length]) = A ++ x :: b :: C := by
  refine ⟨fun i p hp => ?_, by rw [wks_snoc, e, swp_at]⟩
  by_cases hi : i < ps.length
  · rw [List.getElem?_append_left hi] at hp
    rw [List.take_append_of_le_length (by omega)]
    exact w i p hp
  · have hl := (List.getElem?_eq_some_iff.mp hp).1
    rw [List.length_append, List.length_singleton] at hl
    have ei : i = ps.length := by omega
    subst ei
    rw [List.getElem?_append_right (Nat.le_refl _), Nat.sub_self] at hp
    have : p = A.length := by simpa using hp.symm
    subst this
    rw [List.take_append_of_le_length (Nat.le_refl _), List.take_length]
    exact ⟨A, b, x, C, e, rfl, h⟩
/-! ### pairs that stand otherwise -/
def inv1 (one other : List Nm) (x : Nm) : Nat := ((one.takeWhile fun y => decide (y ≠ x)).filter fun y => decide (other.idxOf x < other.idxOf y)).length
def invs (one other : List Nm) : Nat := (one.map (inv1 one other)).sum
theorem tw_filter {α : Type} [DecidableEq α] {p : α → Bool} {x : α} (hx : p x = true) : ∀ l : List α, (l.filter p).takeWhile (fun y => decide (y ≠ x)) = (l.takeWhile fun y => decide (y ≠ x)).filter p
  | [] => rfl
  | a :: l => by
    by_cases ha : a = x
    · subst ha
      rw [List.filter_cons_of_pos hx, List.takeWhile_cons, List.takeWhile_cons]
      simp
    · by_cases hp : p a = true
      · rw [List.filter_cons_of_pos hp, List.takeWhile_cons, List.takeWhile_cons, if_pos (decide_eq_true ha), if_pos (decide_eq_true ha), List.filter_cons_of_pos hp, tw_filter hx l]
      · rw [List.filter_cons_of_neg hp, List.takeWhile_cons, if_pos (decide_eq_true ha), List.filter_cons_of_neg hp, tw_filter hx l]
theorem tw_split {α : Type} [DecidableEq α] {x : α} : ∀ {l : List α}, x ∈ l → ∃ C, l = (l.takeWhile fun y => decide (y ≠ x)) ++ x :: C
  | a :: l, h => by
    by_cases ha : a = x
    · subst ha
      exact ⟨l, by rw [List.takeWhile_cons]; simp⟩
    · rw [List.takeWhile_cons, if_pos (decide_eq_true ha)]
      obtain ⟨C, e⟩ := tw_split (List.mem_of_ne_of_mem (Ne.symm ha) h)
      exact ⟨C, by rw [List.cons_append, ← e]⟩
theorem idx_at {l : List Nm} (nd : l.Nodup) {i : Nat} {x : Nm} (h : l[i]? = some x) : l.idxOf x = i := by
  have hm := List.mem_of_getElem? h
  have hl := List.idxOf_lt_length_of_mem hm
  have e : l[l.idxOf x]? = some x := by rw [List.getElem?_eq_getElem hl, List.getElem_idxOf]
  exact ((List.getElem?_inj hl nd).mp (e.trans h.symm))
theorem idx_take {l : List Nm} (nd : l.Nodup) {y : Nm} {g : Nat} (hy : y ∈ l) : y ∈ l.take g ↔ l.idxOf y < g := by
  constructor
  · intro h
    obtain ⟨i, hi⟩ := List.getElem?_of_mem h
    have hl := (List.getElem?_eq_some_iff.mp hi).1
    rw [List.length_take] at hl
    rw [List.getElem?_take_of_lt (by omega)] at hi
    rw [idx_at nd hi]
    omega
  · intro h
    have hl := List.idxOf_lt_length_of_mem hy
    have e : l[l.idxOf y]? = some y := by rw [List.getElem?_eq_getElem hl, List.getElem_idxOf]
    exact List.mem_of_getElem? (i := l.idxOf y) (by rw [List.getElem?_take_of_lt h]; exact e)
/-- what is left of the one, behind g names of the other -/
abbrev rst (one other : List Nm) (g : Nat) : List Nm := one.filter fun y => !decide (y ∈ other.take g)
theorem sum_perm {l m : List Nat} (h : l.Perm m) : l.sum = m.sum := by
  induction h with
  | nil => rfl
  | cons x _ ih => simp [ih]
  | swap x y l => simp; omega
  | trans _ _ h1 h2 => rw [h1, h2]
theorem len_split {α : Type} (p : α → Bool) : ∀ l : List α, (l.filter p).length + (l.filter fun y => !p y).length = l.length
  | [] => rfl
  | a :: l => by
    have ih := len_split p l
    by_cases h : p a = true
    · rw [List.filter_cons_of_pos h, List.filter_cons_of_neg (by simp [h])]; simp; omega
    · rw [List.filter_cons_of_neg h, List.filter_cons_of_pos (by simpa using h)]; simp; omega
structure TwoR (cs : List Ch) (one other : List Nm) : Prop where
  a : Rdd cs one
  b : Rdd cs other
section
variable {cs : List Ch} {one other : List Nm}
theorem TwoR.mem (r : TwoR cs one other) (x : Nm) : x ∈ one ↔ x ∈ other := by rw [r.a.all, r.b.all]
theorem TwoR.perm (r : TwoR cs one other) : one.Perm other := (List.perm_ext_iff_of_nodup r.a.nd r.b.nd).mpr r.mem
theorem TwoR.invs (r : TwoR cs one other) : (other.map (inv1 one other)).sum = invs one other := sum_perm (r.perm.symm.map _)
/-- the next name, where it stands -/
theorem TwoR.next (r : TwoR cs one other) {g : Nat} {x : Nm} (h : other[g]? = some x) : ∃ B C, rst one other g = B ++ x :: C ∧ B.length = inv1 one other x ∧ rst one other (g + 1) = B ++ C ∧ (∀ b ∈ B, b ∉ knOf cs x) ∧ (other.take g ++ B ++ x :: C).Nodup ∧ (other.take g ++ B ++ x :: C).length = one.length ∧ ∀ n ∈ other.take g ++ B ++ x :: C, n ∈ one := by
  have hgo := (List.getElem?_eq_some_iff.mp h).1
  have hxo := List.mem_of_getElem? h
  have hx : x ∉ other.take g := fun z => by
    have := (idx_take r.b.nd hxo).mp z
    rw [idx_at r.b.nd h] at this
    omega
  have hxp : (!decide (x ∈ other.take g)) = true := by simp [hx]
  have hxr : x ∈ rst one other g := List.mem_filter.mpr ⟨(r.mem x).mpr hxo, hxp⟩
  obtain ⟨C, e⟩ := tw_split hxr
  have ndr : (rst one other g).Nodup := r.a.nd.filter _
  have eB := tw_filter (p := fun y => !decide (y ∈ other.take g)) hxp one
  generalize hB : ((rst one other g).takeWhile fun y => decide (y ≠ x)) = B at e eB
  have ndB := ndr
  rw [e] at ndB
  have hd := List.nodup_append.mp ndB
  have xB : x ∉ B := fun z => hd.2.2 x z x (by simp) rfl
  have xC : x ∉ C := (List.nodup_cons.mp hd.2.1).1
  have inR : ∀ b ∈ rst one other g, b ∉ other.take g := fun b hb => by simpa using (List.mem_filter.mp hb).2
  refine ⟨B, C, e, ?_, ?_, fun b hb hk => ?_, ?_, ?_, fun n hn => ?_⟩
  · rw [eB]
    unfold inv1
    congr 1
    refine List.filter_congr fun y hy => ?_
    have hyo : y ∈ other := (r.mem y).mp ((List.takeWhile_sublist _).subset hy)
    have hyx : y ≠ x := by simpa using List.all_eq_true.mp (List.all_takeWhile (l := one) (p := fun y => decide (y ≠ x))) y hy
    have hne : other.idxOf y ≠ g := fun z => hyx (by
      have e2 : other[other.idxOf y]? = some y := by rw [List.getElem?_eq_getElem (List.idxOf_lt_length_of_mem hyo), List.getElem_idxOf]
      rw [z, h] at e2
      exact (Option.some.inj e2).symm)
    rw [idx_at r.b.nd h]
    by_cases hy2 : y ∈ other.take g
    · have := (idx_take r.b.nd hyo).mp hy2
      rw [decide_eq_true hy2, decide_eq_false (by omega)]
      rfl
    · have : ¬ other.idxOf y < g := fun z => hy2 ((idx_take r.b.nd hyo).mpr z)
      rw [decide_eq_false hy2, decide_eq_true (by omega)]
      rfl
  · have e2 : rst one other (g + 1) = (rst one other g).filter fun y => decide (y ≠ x) := by
      rw [List.filter_filter]
      refine List.filter_congr fun y _ => ?_
      rw [take_snoc h]
      by_cases h1 : y ∈ other.take g <;> by_cases h2 : y = x <;> simp [h1, h2]
    rw [e2, e, List.filter_append, List.filter_cons_of_neg (by simp)]
    congr 1
    · exact List.filter_eq_self.mpr fun b hb => decide_eq_true fun z => xB (z ▸ hb)
    · exact List.filter_eq_self.mpr fun b hb => decide_eq_true fun z => xC (z ▸ hb)
  · exact inR b (by rw [e]; simp [hb]) (r.b.ord g x h b hk)
  · rw [List.append_assoc, ← e]
    exact List.nodup_append.mpr ⟨r.b.nd.take, ndr, fun a ha b hb z => inR b hb (z ▸ ha)⟩
  · rw [List.append_assoc, ← e, List.length_append]
    have p1 : (one.filter fun y => decide (y ∈ other.take g)).Perm (other.take g) := (List.perm_ext_iff_of_nodup (r.a.nd.filter _) r.b.nd.take).mpr fun y => by
      rw [List.mem_filter]
      constructor
      · rintro ⟨_, z⟩; exact of_decide_eq_true z
      · intro z; exact ⟨(r.mem y).mpr (List.mem_of_mem_take z), decide_eq_true z⟩
    rw [← p1.length_eq]
    exact len_split (fun y => decide (y ∈ other.take g)) one
  · rw [List.append_assoc, ← e] at hn
    rcases List.mem_append.mp hn with h1 | h1
    · exact (r.mem n).mpr (List.mem_of_mem_take h1)
    · exact (List.mem_filter.mp h1).1
end
/-! ### exchanged -/
def fExd : AF := fun ws σ Q _ => ∃ A b x C, ws = [.d (.tuple ((A ++ b :: x :: C).map nmD)), .d (.int (A.length : Nat))] ∧ (A ++ b :: x :: C).length ≤ 1000 ∧ Q (.d (.tuple ((A ++ x :: b :: C).map nmD))) σ
instance : MoF fExd := ⟨fun k ⟨A, b, x, C, h1, h2, q⟩ => ⟨A, b, x, C, h1, h2, k _ _ q⟩⟩
/-! ### exchange_paper -/
abbrev plD (ps : List Nat) : List PyData := ps.map fun p => .int (p : Nat)
abbrev plW (ps : List Nat) : List W := ps.map fun p => .d (.int (p : Nat))
def fExp : AF := fun ws σ Q _ => ∃ M zs cs one other, ws = [.d M, .d (.tuple (one.map nmD)), .d (.tuple (other.map nmD))] ∧ Wld zs cs ∧ TwoR cs one other ∧
  ∀ ps, Wkp (knOf cs) one ps → wks one ps = other → ps.length = invs one other → ps.length ≤ 256 → Q (.d (.tuple (plD ps))) σ
instance : MoF fExp := ⟨fun k ⟨M, zs, cs, one, other, h1, h2, h3, q⟩ => ⟨M, zs, cs, one, other, h1, h2, h3, fun a b c d e => k _ _ (q a b c d e)⟩⟩
end Lw

set_option maxHeartbeats 4000000
/-! L13W: ledgers and roads of a world of which only the changes and what they know are told. -/
namespace Lw.Bx
open PySem PySem.Spec PyProof.Rows L2 Mw Aw
structure WdA (σ : Sto) (n : Nat) (cs : List Ch) : Prop where
  w : σ[n]? = some (.dct false (kvW n))
  a1 : σ[n + 1]? = some (.dct true (kv1 cs))
  a2 : σ[n + 2]? = some (.dct true (kv2 cs))
theorem WdA.app {σ j : Sto} {n : Nat} {cs : List Ch} (w : WdA σ n cs) : WdA (σ ++ j) n cs := by
  have ap : ∀ {i d}, σ[i]? = some d → (σ ++ j)[i]? = some d := fun {i d} h => by rw [List.getElem?_append_left (List.getElem?_eq_some_iff.mp h).1]; exact h
  exact ⟨ap w.w, ap w.a1, ap w.a2⟩
section
variable {σ : Sto} {n : Nat} {cs : List Ch} {Q : QK} {m : Nm} {c : Ch}
theorem WdA.prs (w : WdA σ n cs) : prsOf σ (.ref n) = some (kvW n) := by simp only [prsOf, w.w]
end
def fLedger : AF := fun ws σ Q _ => ∃ n cs nms w, ws = [.ref n, w] ∧ (w = .d (.list (nms.map nmD)) ∨ w = .d (.tuple (nms.map nmD))) ∧ WdA σ n cs ∧ cs.length ≤ 50 ∧ (∀ m ∈ names cs, Wrd m.2) ∧ (∀ m ∈ nms, Wrd m.2) ∧ Q (.d (ledD (ledP cs nms))) σ
instance : MoF fLedger := ⟨fun k ⟨n, cs, nms, w, h1, h2, h3, h4, h5, h6, q⟩ => ⟨n, cs, nms, w, h1, h2, h3, h4, h5, h6, k _ _ q⟩⟩
def fRoad : AF := fun ws σ Q _ => ∃ F n cs zs c, ws = [.ref F, .ref n, .d (.list ((srt (names cs)).map nmD))] ∧ σ[F]? = some c ∧ IsFeed c ∧ Off F n ∧ WdA σ n cs ∧ Wld zs cs ∧
  ∀ rd c', Rdd cs rd → IsFeed c' → Q (.d (.tuple (rd.map nmD))) (σ.set F c')
instance : MoF fRoad := ⟨fun k ⟨F, n, cs, zs, c, h1, h2, h3, h4, h5, h6, q⟩ => ⟨F, n, cs, zs, c, h1, h2, h3, h4, h5, h6, fun a b c d => k _ _ (q a b c d)⟩⟩
end Lw.Bx

set_option maxHeartbeats 4000000
/-! L13B: k13: the wide world. -/
namespace Lw
open PySem PySem.Spec PyProof.Rows L2 Mw Aw
def wch (z : Str) : Ch := { nm := (1, z), hand := z, base := [], deed := .put "a", kn := [] }
def insW (l : List Str) (z : Str) : List Str := if z ∈ l then l else l ++ [z]
def wds : List Str → List Str → List Str
  | l, [] => l
  | l, z :: r => wds (insW l z) r
def f13Wide : AF := fun ws σ Q _ => ∃ zs, ws = [.d (ssD zs)] ∧ zs.length ≤ 6 ∧ (∀ z ∈ zs, Wrd z) ∧ ∀ cs j, Wr zs cs → cs.length ≤ 6 → Bx.WdA (σ ++ j) σ.length cs → j.length = 5 → Q (.ref σ.length) (σ ++ j)
instance : MoF f13Wide := ⟨fun k ⟨zs, h1, h2, h3, q⟩ => ⟨zs, h1, h2, h3, fun a b c d e f => k _ _ (q a b c d e f)⟩⟩
end Lw

set_option maxHeartbeats 4000000
/-! L13C: k13: whether a told paper is right; the law. -/
namespace Lw
open PySem PySem.Spec PyProof.Rows L2 Mw Aw
def f13Rgt : AF := fun ws σ Q _ => ∃ n zs cs one other ps, ws = [.ref n, .d (.tuple (one.map nmD)), .d (.tuple (other.map nmD)), .d (.tuple (plD ps))] ∧ Bx.WdA σ n cs ∧ Wld zs cs ∧ TwoR cs one other ∧ Wkp (knOf cs) one ps ∧ wks one ps = other ∧ ps.length = invs one other ∧ ps.length ≤ 256 ∧ Q (.d (.bool true)) σ
instance : MoF f13Rgt := ⟨fun k ⟨n, zs, cs, one, other, ps, h1, h2, h3, h4, h5, h6, h7, h8, q⟩ => ⟨n, zs, cs, one, other, ps, h1, h2, h3, h4, h5, h6, h7, h8, k _ _ q⟩⟩
/-! ### the law -/
instance {fa : AE} {g : AG} [MoE fa] [MoG g] : MoS (aAsg fa g) := ⟨fun {k k' e σ} kn kr kx q => by
  unfold aAsg at q ⊢
  rw [← kx]
  exact MoE.mo (f := fa) (fun _ _ q => MoG.mo (g := g) kn q) q⟩
instance {ft : AT} {a b : AS} [MoT ft] [MoS a] [MoS b] : MoS (aIfS ft a b) := ⟨fun {k k' e σ} kn kr kx q => by
  unfold aIfS at q ⊢
  rw [← kx]
  exact MoT.mo (f := ft) (fun _ _ q => ite_mo (MoS.mo (a := a) kn kr kx) (MoS.mo (a := b) kn kr kx) q) q⟩
theorem cutSt {a : AS} [m : MoS a] {k : AK} {e : Ev} {σ : Sto} (P : Ev → Sto → Prop) (h : a { k with nx := P } e σ) (kk : ∀ e s, P e s → k.nx e s) : a k e σ := m.mo (k := { k with nx := P }) kk (fun _ _ q => q) rfl h
end Lw

set_option maxHeartbeats 4000000
/-! AwU: x += e, x -= e of whole numbers. -/
namespace Aw
open PySem PySem.Spec PyProof.Rows L2 Mw
section
variable {Z : Zx} {E : L2.St → XK} {ta : TE} {fa : AE} {f : Int → Int → Int} {i : Nat}
def aAugI (f : Int → Int → Int) (i : Nat) (fe : AE) : AS := fun k e σ => ∃ m : Int, e[i]? = some (some (.d (.int m))) ∧ fe e σ (fun y σ1 => ∃ n : Int, y = .d (.int n) ∧ k.nx (e.set i (some (.d (.int (f m n))))) σ1) (k.ex e)
instance sim_aug [ia : SimE Z E ta fa] : SimS Z E (tAug i ta (ipI f)) (aAugI f i fa) := ⟨fun {ρ σ H s e k D} r er h kn kr kx => by
  obtain ⟨m, hm, h⟩ := h
  obtain ⟨x, hx, vx⟩ := Paired.get er hm
  match x, vx with
  | some x, vx =>
    have ex : x = .int m := WR.int vx
    subst ex
    refine ⟨.int m, hx, ia.sim r er h (fun _ _ _ v w g1 r1 v1 h1 => ?_) (kx.at_ r er)⟩
    obtain ⟨n, rfl, q⟩ := h1
    exact ⟨m, n, rfl, v1.int, kn _ _ _ _ _ g1 r1 (Paired.set (by exact Rp.int _) i (g1.er r er)) q⟩⟩
theorem r_augI {k : AK} {e : Ev} {σ : Sto} {m : Int} (hm : e[i]? = some (some (.d (.int m)))) (h : fa e σ (fun y σ1 => ∃ n : Int, y = .d (.int n) ∧ k.nx (e.set i (some (.d (.int (f m n))))) σ1) (k.ex e)) : aAugI f i fa k e σ := ⟨m, hm, h⟩
end
/-! ### t[::-1] -/
section
variable {X : Cx} {K : PySem.W.Frag}
def tRevF (K : PySem.W.Frag) (te : TE) : TE := fun σ H Q => te σ H fun x H1 => ∃ a xs, x = .ref a ∧ SqT K H1 a xs ∧ LayT H1 xs.reverse Q
theorem pe_revF {e : Expr} {te : TE} {k : Nat} {p1 p2 p3 pos : Pos} (hK : X.K = K) (he : PE X e te) : PE X (.Subscript e (.Slice none none (some (.UnaryOp .USub (.Constant (.int 1) k p1) p2)) p3) pos) (tRevF K te) := by
  subst hK
  refine ⟨fun pins s σ H Q I h => ?_⟩
  refine Subscript_ (thn (he.run pins s σ H _ I h) fun v s1 h1 => ?_)
  obtain ⟨x, H1, I1, r1, a, xs, rfl, hx, q⟩ := h1
  cases r1
  have st : PO X (some (.UnaryOp .USub (.Constant (.int 1) k p1) p2)) (tPart (tUn (rU fun i => .int (-i)) (tC (.int 1)))) := po_some (pe_un un_neg pe_int)
  refine wpAny_Slice (thn (po_none.run pins s1 σ H1 (fun o H2 => o = none ∧ H2 = H1) I1 ⟨rfl, rfl⟩) fun vl s2 h2 => ?_)
  obtain ⟨l, H2, I2, pl, rfl, rfl⟩ := h2
  refine thn (po_none.run pins s2 σ H2 (fun o H3 => o = none ∧ H3 = H2) I2 ⟨rfl, rfl⟩) fun vu s3 h3 => ?_
  obtain ⟨u, H3, I3, pu, rfl, rfl⟩ := h3
  refine thn (st.run pins s3 σ H3 (fun o H4 => o = some (-1) ∧ H4 = H3) I3 ⟨1, rfl, -1, rfl, rfl, rfl⟩) fun vs s4 h4 => ?_
  obtain ⟨o, H4, I4, ps, rfl, rfl⟩ := h4
  cases pl
  cases pu
  cases ps
  rename_i tk
  have I5 : Inv X pins σ H4 { s4 with heap := s4.heap.push { cls := .type "slice", data := .fields #[.none, .none, .int (-1) tk] } } := I4.kept (t' := s4.toks) fun b ob z => Heap.get?_push_of_some _ z
  obtain ⟨its, r, ht, hz⟩ := I5.tuple hx
  have hlen := r.length
  show wpAny (model X.prog X.w) X.A (subscriptTail e (.Slice none none (some (.UnaryOp .USub (.Constant (.int 1) k p1) p2)) p3) (.ref a) (.ref s4.heap.objs.size)) (EP X pins σ Q) X.xe { s4 with heap := s4.heap.push { cls := .type "slice", data := .fields #[.none, .none, .int (-1) tk] } }
  refine tail_any (ops := [.ref a, .ref s4.heap.objs.size]) ht.typeIs PyProof.Rows.slot_tuple_getitem.lookup ?_ (by with_unfolding_all rfl)
  refine getItem_rev ht (Heap.IsSliceOf.new _ _ _ _) ?_ (by rw [List.size_toArray]; omega)
  exact lay_tup (t' := s4.toks) I5 r.reverse (by rw [List.length_reverse]; exact hz) q
end
section
variable {Z : Zx} {E : L2.St → XK} {ta : TE} {fa : AE}
def aRevT (fa : AE) : AE := fun e σ Q X => fa e σ (fun w σ1 => ∃ ds, w = .d (.tuple ds) ∧ Q (.d (.tuple ds.reverse)) σ1) X
instance sim_revT [ia : SimE Z E ta fa] : SimE Z E (tRevF Z.K ta) (aRevT fa) := ⟨fun r er h kq kx =>
  ia.sim r er h (fun _ _ _ _ _ g1 r1 v1 h1 => by
    obtain ⟨ds, rfl, q⟩ := h1
    obtain ⟨a, xs, rfl, tu, hp⟩ := WR.tup v1
    exact ⟨a, xs, rfl, .inl tu.rd, (kq.go g1).layT r1 (rpAll_rev hp) q⟩) kx⟩
instance [MoE fa] : MoE (aRevT fa) := ⟨fun k q => MoE.mo (f := fa) (fun _ _ ⟨ds, h, q⟩ => ⟨ds, h, k _ _ q⟩) q⟩
theorem r_revT {e : Ev} {σ : Sto} {Q : QK} {X : XQ} (h : fa e σ (fun w σ1 => ∃ ds, w = .d (.tuple ds) ∧ Q (.d (.tuple ds.reverse)) σ1) X) : aRevT fa e σ Q X := h
end
end Aw

set_option maxHeartbeats 8000000
set_option synthInstance.maxHeartbeats 2000000
set_option synthInstance.maxSize 100000
/-! L11P: k11: its own defs as abstract programs (generated). -/
namespace Lw
open PySem PySem.Spec PyProof.Rows L2 Mw Aw
noncomputable abbrev p11Ito : AS := (aRet (aAndV (aIsi "tuple" (aVar 1)) (aOp (ra2 (eqF false)) (aCB lenW (aCons (aVar 1) aNil)) (aVar 0))))
noncomputable abbrev p11Num : AS := (aRet (aAndV (aIsi "int" (aVar 0)) (aNotV (aIsi "bool" (aVar 0)))))
noncomputable abbrev p11Sml : AS := (aRet (aChain (ra2 (ordF fLe)) (ra2 (ordF fLe)) (aD (.str "a")) (aVar 0) (aD (.str "z"))))
noncomputable abbrev p11Wrd (fSml : AF) : AS := (aSeq (aIfS (aNot (aTest (aIsi "str" (aVar 0))))
    (aRet (aD (.bool false)))
    aNext)
  (aRet (aAndV (aChain (ra2 (ordF fLe)) (ra2 (ordF fLe)) (aD (.int 1)) (aCB lenW (aCons (aVar 0) aNil)) (aD (.int 8))) (aAllG (aIt (aVar 0)) (agN 1) aYes (aCall fSml 1 (aCons (aVar 1) aNil)) [1] true))))
noncomputable abbrev p11Isn (fWrd fNum fIto : AF) : AS := (aSeq (aIfS (aNot (aTest (aCall fIto 2 (aCons (aD (.int 2)) (aCons (aVar 0) aNil)))))
    (aRet (aD (.bool false)))
    aNext)
  (aRet (aAndV (aCall fNum 1 (aCons (aOp ixW (aVar 0) (aD (.int 0))) aNil)) (aAndV (aOp (ra2 (ordF fGe)) (aOp ixW (aVar 0) (aD (.int 0))) (aD (.int 1))) (aCall fWrd 1 (aCons (aOp ixW (aVar 0) (aD (.int 1))) aNil))))))
noncomputable abbrev p11Nof : AS := (aRet (aTupG (aIt (aVar 0)) (agN 1) aYes (aOp ixW (aVar 1) (aD (.int 0))) [1]))
noncomputable abbrev p11By : AS := (aRet (aDcT (aIt (aVar 0)) (agN 1) aYes (aOp ixW (aVar 1) (aD (.int 0))) (aVar 1) [1]))
noncomputable abbrev p11Isr (fIsn fBy : AF) : AS := (aSeq (aIfS (aOr (aNot (aTest (aIsi "tuple" (aVar 1)))) (aTest (aOp (ra2 (eqF true)) (aCB lenW (aCons (aVar 1) aNil)) (aCB lenW (aCons (aVar 0) aNil)))))
    (aRet (aD (.bool false)))
    aNext)
  (aSeq (aAsg (aCall fBy 1 (aCons (aVar 0) aNil)) (agN 2))
  (aSeq (aAsg (aDNew true) (agN 3))
  (aSeq (aFor (aIt (aVar 1)) (agN 4)
    (aSeq (aIfS (aOr (aNot (aTest (aCall fIsn 1 (aCons (aVar 4) aNil)))) (aOr (aTest (aOp (inW true) (aVar 4) (aVar 2))) (aTest (aOp (inW false) (aVar 4) (aVar 3)))))
    (aRet (aD (.bool false)))
    aNext)
  (aSeq (aIfS (aNot (aTest (aAllG (aIt (aOp ixW (aOp ixW (aVar 2) (aVar 4)) (aD (.int 2)))) (agN 5) aYes (aOp (inW false) (aVar 5) (aVar 3)) [5] true)))
    (aRet (aD (.bool false)))
    aNext)
  (aDPut (aVar 3) (aVar 4) (aD (.bool true))))))
  (aRet (aD (.bool true)))))))
noncomputable abbrev p11Rbn (fNof : AF) : AS := (aRet (aCall fNof 1 (aCons (aVar 0) aNil)))
noncomputable abbrev p11Exd : AS := (aRet (aOp (ra2 addD) (aOp (ra2 addD) (aSl (aVar 0) aNoP (aPart (aVar 1))) (aTup (aCons (aOp ixW (aVar 0) (aOp (ra2 addD) (aVar 1) (aD (.int 1)))) (aCons (aOp ixW (aVar 0) (aVar 1)) aNil)))) (aSl (aVar 0) (aPart (aOp (ra2 addD) (aVar 1) (aD (.int 2)))) aNoP)))
noncomputable abbrev p11Unl : AS := (aSeq (aAsg (aDcT (aEnum (aCons (aVar 1) aNil)) (agT 2 (agCons (agN 3) (agCons (agN 4) agNil))) aYes (aVar 4) (aVar 3) [3, 4]) (agN 2))
  (aSeq (aAsg (aD (.int 0)) (agN 5))
  (aSeq (aFor (aEnum (aCons (aVar 0) aNil)) (agT 2 (agCons (agN 3) (agCons (agN 4) agNil)))
    (aAugI (fun i j => i + j) 5 (aCB lenW (aCons (aLc (aIt (aSl (aVar 0) aNoP (aPart (aVar 3)))) (agN 6) (aTest (aOp (ra2 (ordF fGt)) (aOp ixW (aVar 2) (aVar 6)) (aOp ixW (aVar 2) (aVar 4)))) (aVar 6) [6]) aNil))))
  (aRet (aVar 5)))))
noncomputable abbrev p11Due : AS := (aSeq (aIfS (aOr (aNot (aTest (aIsi "tuple" (aVar 2)))) (aTest (aOp (ra2 (eqF true)) (aCB lenW (aCons (aVar 2) aNil)) (aCB lenW (aCons (aVar 1) aNil)))))
    (aRet (aD (.bool false)))
    aNext)
  (aSeq (aFor (aR1 (aCons (aCB lenW (aCons (aVar 2) aNil)) aNil)) (agN 3)
    (aSeq (aAsg (aOp ixW (aVar 2) (aVar 3)) (agN 4))
  (aSeq (aIfS (aOr (aNot (aTest (aIsi "tuple" (aVar 4)))) (aTest (aOp (ra2 (eqF true)) (aCB lenW (aCons (aVar 4) aNil)) (aD (.int 2)))))
    (aRet (aD (.bool false)))
    aNext)
  (aSeq (aIfS (aOr (aTest (aIsi "bool" (aOp ixW (aVar 4) (aD (.int 0))))) (aTest (aOp (inW true) (aVar 4) (aVar 1))))
    (aRet (aD (.bool false)))
    aNext)
  (aSeq (aAsg (aSl (aVar 2) aNoP (aPart (aVar 3))) (agN 5))
  (aIfS (aOr (aTest (aOp (inW false) (aVar 4) (aVar 5))) (aTest (aOp (ra2 (eqF true)) (aLc (aIt (aOp ixW (aOp ixW (aVar 0) (aD (.str "knows"))) (aVar 4))) (agN 6) (aTest (aOp (inW true) (aVar 6) (aVar 5))) (aVar 6) [6]) (aLst aNil))))
    (aRet (aD (.bool false)))
    aNext))))))
  (aRet (aD (.bool true)))))
noncomputable abbrev p11Bent (fDraw : AF) : AS := (aSeq (aAsg (aCall fDraw 2 (aCons (aVar 0) (aCons (aD (.int 10)) aNil))) (agN 2))
  (aSeq (aAsg (aCall fDraw 2 (aCons (aVar 0) (aCons (aCB lenW (aCons (aVar 1) aNil)) aNil))) (agN 3))
  (aSeq (aAsg (aCall fDraw 2 (aCons (aVar 0) (aCons (aCB lenW (aCons (aVar 1) aNil)) aNil))) (agN 4))
  (aSeq (aAsg (aOp ixW (aVar 1) (aVar 3)) (agT 2 (agCons (agN 5) (agCons (agN 6) agNil))))
  (aSeq (aIfS (aTest (aOp (ra2 (eqF false)) (aVar 2) (aD (.int 0))))
    (aRet (aOp (ra2 addD) (aSl (aVar 1) aNoP (aPart (aVar 3))) (aSl (aVar 1) (aPart (aOp (ra2 addD) (aVar 3) (aD (.int 1)))) aNoP)))
    aNext)
  (aSeq (aIfS (aTest (aOp (ra2 (eqF false)) (aVar 2) (aD (.int 1))))
    (aRet (aOp (ra2 addD) (aOp (ra2 addD) (aSl (aVar 1) aNoP (aPart (aVar 3))) (aTup (aCons (aOp ixW (aVar 1) (aVar 3)) aNil))) (aSl (aVar 1) (aPart (aVar 3)) aNoP)))
    aNext)
  (aSeq (aIfS (aTest (aOp (ra2 (eqF false)) (aVar 2) (aD (.int 2))))
    (aRet (aOp (ra2 addD) (aOp (ra2 addD) (aSl (aVar 1) aNoP (aPart (aVar 3))) (aTup (aCons (aOp ixW (aVar 1) (aVar 4)) aNil))) (aSl (aVar 1) (aPart (aOp (ra2 addD) (aVar 3) (aD (.int 1)))) aNoP)))
    aNext)
  (aSeq (aIfS (aTest (aOp (ra2 (eqF false)) (aVar 2) (aD (.int 3))))
    (aSeq (aAsg (aOp (ra2 addD) (aSl (aVar 1) aNoP (aPart (aVar 3))) (aSl (aVar 1) (aPart (aOp (ra2 addD) (aVar 3) (aD (.int 1)))) aNoP)) (agN 7))
  (aRet (aOp (ra2 addD) (aOp (ra2 addD) (aSl (aVar 7) aNoP (aPart (aVar 4))) (aTup (aCons (aOp ixW (aVar 1) (aVar 3)) aNil))) (aSl (aVar 7) (aPart (aVar 4)) aNoP))))
    aNext)
  (aSeq (aIfS (aTest (aOp (ra2 (eqF false)) (aVar 2) (aD (.int 4))))
    (aRet (aOp (ra2 addD) (aOp (ra2 addD) (aSl (aVar 1) aNoP (aPart (aVar 3))) (aRevT (aSl (aVar 1) (aPart (aVar 3)) (aPart (aOp (ra2 addD) (aVar 3) (aD (.int 2))))))) (aSl (aVar 1) (aPart (aOp (ra2 addD) (aVar 3) (aD (.int 2)))) aNoP)))
    aNext)
  (aSeq (aIfS (aTest (aOp (ra2 (eqF false)) (aVar 2) (aD (.int 5))))
    (aRet (aRevT (aVar 1)))
    aNext)
  (aSeq (aAsg (aLst (aCons (aTup (aCons (aOp (ra2 addD) (aVar 5) (aD (.int 1))) (aCons (aVar 6) aNil))) (aCons (aTup (aCons (aVar 5) (aCons (aOp (ra2 addD) (aVar 6) (aD (.str "a"))) aNil))) (aCons (aTup (aCons (aOp (ra2 (eqF false)) (aVar 5) (aD (.int 1))) (aCons (aVar 6) aNil))) aNil)))) (agN 8))
  (aSeq (aAsg (aOp (ra2 addD) (aVar 8) (aLst (aCons (aLst (aCons (aVar 5) (aCons (aVar 6) aNil))) (aCons (aTup (aCons (aVar 5) (aCons (aVar 6) (aCons (aD (.int 0)) aNil)))) (aCons (aD .none) aNil))))) (agN 8))
  (aSeq (aAsg (aOp ixW (aVar 8) (aOp (ra2 addD) (aOp (ra2 subD) (aVar 2) (aD (.int 6))) (aOp (ra2 mulD) (aD (.int 2)) (aCall fDraw 2 (aCons (aVar 0) (aCons (aD (.int 2)) aNil)))))) (agN 9))
  (aRet (aOp (ra2 addD) (aOp (ra2 addD) (aSl (aVar 1) aNoP (aPart (aVar 3))) (aTup (aCons (aVar 9) aNil))) (aSl (aVar 1) (aPart (aOp (ra2 addD) (aVar 3) (aD (.int 1)))) aNoP))))))))))))))))
noncomputable abbrev p11Oth : AS := (aSeq (aAsg (aD (.int 0)) (agN 2))
  (aSeq (aFor (aIt (aVar 0)) (agN 3)
    (aFor (aIt (aSl (aVar 0) aNoP (aPart (aBMT idxW (aVar 0) (aCons (aVar 3) aNil))))) (agN 4)
    (aAsg (aOp (ra2 addD) (aVar 2) (aCB intW (aCons (aOp (ra2 (ordF fGt)) (aBMT idxW (aVar 1) (aCons (aVar 4) aNil)) (aBMT idxW (aVar 1) (aCons (aVar 3) aNil))) aNil))) (agN 2))))
  (aRet (aVar 2))))
noncomputable abbrev p11Rr (fIsr fLedger fExd fDraw fUnl fOth : AF) : AS := (aSeq (aFor (aIt (aTup (aCons (aTup (aCons (aVar 2) (aCons (aVar 3) aNil))) (aCons (aTup (aCons (aVar 3) (aCons (aVar 2) aNil))) (aCons (aTup (aCons (aVar 2) (aCons (aVar 2) aNil))) aNil))))) (agT 2 (agCons (agN 4) (agCons (agN 5) agNil)))
    (aIfS (aTest (aOp (ra2 (eqF true)) (aCB reprW (aCons (aCall fUnl 2 (aCons (aVar 4) (aCons (aVar 5) aNil))) aNil)) (aCB reprW (aCons (aCall fOth 2 (aCons (aVar 4) (aCons (aVar 5) aNil))) aNil))))
    (aRet (aD (.bool false)))
    aNext))
  (aSeq (aIfS (aTest (aOp (ra2 (ordF fGt)) (aCB lenW (aCons (aVar 2) aNil)) (aD (.int 1))))
    (aSeq (aAsg (aCall fDraw 2 (aCons (aVar 0) (aCons (aOp (ra2 subD) (aCB lenW (aCons (aVar 2) aNil)) (aD (.int 1))) aNil))) (agN 6))
  (aSeq (aAsg (aCall fExd 2 (aCons (aVar 2) (aCons (aVar 6) aNil))) (agN 7))
  (aSeq (aIfS (aTest (aOp (ra2 (eqF true)) (aCB reprW (aCons (aVar 7) aNil)) (aCB reprW (aCons (aOp (ra2 addD) (aOp (ra2 addD) (aSl (aVar 2) aNoP (aPart (aVar 6))) (aTup (aCons (aOp ixW (aVar 2) (aOp (ra2 addD) (aVar 6) (aD (.int 1)))) (aCons (aOp ixW (aVar 2) (aVar 6)) aNil)))) (aSl (aVar 2) (aPart (aOp (ra2 addD) (aVar 6) (aD (.int 2)))) aNoP)) aNil))))
    (aRet (aD (.bool false)))
    aNext)
  (aSeq (aAsg (aCall fLedger 2 (aCons (aVar 1) (aCons (aVar 2) aNil))) (agN 8))
  (aIfS (aTest (aOp (ra2 (eqF true)) (aCB reprW (aCons (aCall fIsr 2 (aCons (aVar 8) (aCons (aVar 7) aNil))) aNil)) (aCB reprW (aCons (aOp (inW true) (aOp ixW (aVar 2) (aVar 6)) (aOp ixW (aOp ixW (aVar 1) (aD (.str "knows"))) (aOp ixW (aVar 2) (aOp (ra2 addD) (aVar 6) (aD (.int 1)))))) aNil))))
    (aRet (aD (.bool false)))
    aNext)))))
    aNext)
  (aRet (aD (.bool true)))))
noncomputable abbrev p11Law (fRr fRbn fIsr fDue fBent fRoad fLedger fWorld fDraw fWords fFeed : AF) : AS := (aSeq (aAsg (aCall fFeed 1 (aCons (aVar 0) aNil)) (agN 1))
  (aSeq (aAsg (aCall fWords 2 (aCons (aVar 1) (aCons (aOp (ra2 addD) (aD (.int 1)) (aCall fDraw 2 (aCons (aVar 1) (aCons (aD (.int 6)) aNil)))) aNil))) (agN 2))
  (aSeq (aAsg (aCall fWorld 3 (aCons (aVar 1) (aCons (aVar 2) (aCons (aCall fDraw 2 (aCons (aVar 1) (aCons (aD (.int 17)) aNil))) aNil)))) (agN 3))
  (aSeq (aAsg (aCB srtW (aCons (aOp ixW (aVar 3) (aD (.str "changes"))) aNil)) (agN 4))
  (aSeq (aAsg (aCall fLedger 2 (aCons (aVar 3) (aCons (aVar 4) aNil))) (agN 5))
  (aSeq (aAsg (aTup (aCons (aCall fRoad 3 (aCons (aVar 1) (aCons (aVar 3) (aCons (aVar 4) aNil)))) (aCons (aCall fRoad 3 (aCons (aVar 1) (aCons (aVar 3) (aCons (aVar 4) aNil)))) aNil))) (agT 2 (agCons (agN 6) (agCons (agN 7) agNil))))
  (aSeq (aAsg (aLst (aCons (aVar 6) (aCons (aVar 7) (aCons (aCB listW (aCons (aVar 6) aNil)) (aCons (aD .none) (aCons (aTup aNil) (aCons (aLst aNil) (aCons (aD (.bool true)) (aCons (aOp (ra2 addD) (aVar 6) (aTup (aCons (aTup (aCons (aD (.int 99)) (aCons (aD (.str "a")) aNil))) aNil))) (aCons (aD (.str "road")) (aCons (aTup (aCons (aTup (aCons (aD (.int 1)) (aCons (aD (.str "a")) aNil))) aNil)) aNil))))))))))) (agN 8))
  (aSeq (aIfS (aTest (aOp (ra2 (eqF true)) (aVar 4) (aLst aNil)))
    (aAsg (aOp (ra2 addD) (aOp (ra2 addD) (aVar 8) (aLc (aR1 (aCons (aD (.int 8)) aNil)) (agN 9) aYes (aCall fBent 2 (aCons (aVar 1) (aCons (aVar 6) aNil))) [9])) (aLst (aCons (aCall fBent 2 (aCons (aVar 1) (aCons (aVar 7) aNil))) aNil))) (agN 8))
    aNext)
  (aSeq (aAsg (aCB reprW (aCons (aTup (aCons (aVar 5) (aCons (aVar 8) aNil))) aNil)) (agN 10))
  (aSeq (aFor (aIt (aOp (ra2 addD) (aVar 8) (aSl (aVar 8) aNoP (aPart (aD (.int 1)))))) (agN 11)
    (aSeq (aAsg (aCB reprW (aCons (aCall fDue 3 (aCons (aVar 3) (aCons (aVar 4) (aCons (aVar 11) aNil)))) aNil)) (agN 12))
  (aIfS (aTest (aOp (ra2 (eqF true)) (aLc (aR1 (aCons (aD (.int 2)) aNil)) (agN 13) aYes (aCB reprW (aCons (aCall fIsr 2 (aCons (aVar 5) (aCons (aVar 11) aNil))) aNil)) [13]) (aLst (aCons (aVar 12) (aCons (aVar 12) aNil)))))
    (aRet (aD (.bool false)))
    aNext)))
  (aSeq (aIfS (aOr (aTest (aOp (ra2 (eqF true)) (aCB reprW (aCons (aCall fRbn 1 (aCons (aVar 5) aNil)) aNil)) (aCB reprW (aCons (aCB tupleW (aCons (aVar 4) aNil)) aNil)))) (aNot (aTest (aCall fRr 4 (aCons (aVar 1) (aCons (aVar 3) (aCons (aVar 6) (aCons (aVar 7) aNil))))))))
    (aRet (aD (.bool false)))
    aNext)
  (aRet (aOp (ra2 (eqF false)) (aCB reprW (aCons (aTup (aCons (aVar 5) (aCons (aVar 8) aNil))) aNil)) (aVar 10))))))))))))))
end Lw

set_option maxHeartbeats 4000000
/-! LKg: is_number, is_word, is_name of any thing. -/
namespace Lw
open PySem PySem.Spec PyProof.Rows L2 Mw Aw
/-- a thing that may be handed in: no dict, plain signs, not too great -/
structure Od (d : PyData) : Prop where
  f : fine d = true
  w : wt d ≤ 1000000
  p : d.depth ≤ 20
theorem Od.nd {d : PyData} (o : Od d) : ∀ ds, d ≠ .dict ds := fun ds e => by
  have := o.f
  rw [e] at this
  simp [fine] at this
theorem wt_mem : ∀ {ds : List PyData} {x : PyData}, x ∈ ds → wt x + 2 ≤ wtAll ds
  | d :: ds, x, h => by
    rw [wtAll]
    rcases List.mem_cons.mp h with e | h
    · subst e; omega
    · have := wt_mem h; omega
theorem fine_mem : ∀ {ds : List PyData} {x : PyData}, fineAll ds = true → x ∈ ds → fine x = true
  | d :: ds, x, h, hx => by
    have h' : fine d = true ∧ fineAll ds = true := by simpa [fineAll] using h
    rcases List.mem_cons.mp hx with e | h2
    · rw [e]; exact h'.1
    · exact fine_mem h'.2 h2
theorem depth_mem : ∀ {ds : List PyData} {x : PyData}, x ∈ ds → x.depth ≤ PyData.depthAll ds
  | d :: ds, x, h => by
    rw [PyData.depthAll]
    rcases List.mem_cons.mp h with e | h
    · subst e; omega
    · have := depth_mem h; omega
theorem Od.sh {d : PyData} (o : Od d) : SeqAt.shaped d = true := by
  have h1 := (fine_show o.f).2.1
  have h2 := o.p
  show (PyData.canLay0 d && decide (PyData.depth d ≤ 64)) = true
  rw [h1, decide_eq_true (by omega)]
  rfl
theorem Od.shw {d : PyData} (o : Od d) : Shw d := by
  obtain ⟨h1, h2, h3⟩ := fine_show o.f
  have h4 := o.p
  have h5 := o.w
  exact ⟨h1, h2, by omega, by omega⟩
theorem Od.tup {ds : List PyData} (o : Od (.tuple ds)) {x : PyData} (h : x ∈ ds) : Od x :=
  ⟨fine_mem (by have := o.f; simpa [fine] using this) h, by have := wt_mem h; have := o.w; simp only [wt] at this; omega, by have := depth_mem h; have := o.p; simp only [PyData.depth] at this; omega⟩
theorem Od.str {z : Str} (o : Od (.str z)) : z.length ≤ 100000 ∧ ∀ c ∈ z.cps.toList, c < 128 := by
  have h1 := o.w
  have h2 := o.f
  simp only [wt] at h1
  simp only [fine] at h2
  exact ⟨by omega, fun c hc => of_decide_eq_true (List.all_eq_true.mp h2 c hc)⟩
def smlB (c : Nat) : Bool := decide (97 ≤ c) && decide (c ≤ 122)
def wrdS (z : Str) : Bool := decide (1 ≤ z.length) && (decide (z.length ≤ 8) && z.cps.toList.all smlB)
def numB : PyData → Bool
  | .int _ => true
  | _ => false
def wrdB : PyData → Bool
  | .str z => wrdS z
  | _ => false
def itoB (m : Int) : PyData → Bool
  | .tuple ds => decide ((ds.length : Int) = m)
  | _ => false
def isnB : PyData → Bool
  | .tuple [.int i, b] => decide (1 ≤ i) && wrdB b
  | _ => false
def gIto : AF := fun ws σ Q _ => ∃ (m : Int) (d : PyData), ws = [.d (.int m), .d d] ∧ Od d ∧ Q (.d (.bool (itoB m d))) σ
instance : MoF gIto := ⟨fun k ⟨a, b, h, h1, q⟩ => ⟨a, b, h, h1, k _ _ q⟩⟩
def gNum : AF := fun ws σ Q _ => ∃ (d : PyData), ws = [.d d] ∧ Od d ∧ Q (.d (.bool (numB d))) σ
instance : MoF gNum := ⟨fun k ⟨b, h, h1, q⟩ => ⟨b, h, h1, k _ _ q⟩⟩
def gSml : AF := fun ws σ Q _ => ∃ c : Nat, ws = [Aw.chD c] ∧ c < 128 ∧ Q (.d (.bool (smlB c))) σ
instance : MoF gSml := ⟨fun k ⟨a, h, h1, q⟩ => ⟨a, h, h1, k _ _ q⟩⟩
def gWrd : AF := fun ws σ Q _ => ∃ d : PyData, ws = [.d d] ∧ Od d ∧ Q (.d (.bool (wrdB d))) σ
instance : MoF gWrd := ⟨fun k ⟨a, h, h1, q⟩ => ⟨a, h, h1, k _ _ q⟩⟩
def gIsn : AF := fun ws σ Q _ => ∃ d : PyData, ws = [.d d] ∧ Od d ∧ Q (.d (.bool (isnB d))) σ
instance : MoF gIsn := ⟨fun k ⟨a, h, h1, q⟩ => ⟨a, h, h1, k _ _ q⟩⟩
end Lw

set_option maxHeartbeats 4000000
/-! L11A: k11: is_road of any thing, and what is due. -/
namespace Lw
open PySem PySem.Spec PyProof.Rows L2 Mw Aw
def isRd (cs : List Ch) (d : PyData) : Prop := ∃ rd, d = .tuple (rd.map nmD) ∧ Rdd cs rd
/-- a beginning of a road -/
structure Bgn (cs : List Ch) (rd : List Nm) : Prop where
  nd : rd.Nodup
  sub : ∀ m ∈ rd, m ∈ names cs
  ord : ∀ (i : Nat) (m : Nm), rd[i]? = some m → ∀ k ∈ knOf cs m, k ∈ rd.take i
theorem Bgn.snoc {cs : List Ch} {rd : List Nm} (b : Bgn cs rd) {n : Nm} (hn : n ∈ names cs) (hr : n ∉ rd) (hk : ∀ k ∈ knOf cs n, k ∈ rd) : Bgn cs (rd ++ [n]) := by
  refine ⟨List.nodup_append.mpr ⟨b.nd, by simp, fun a ha c hc e => hr (by rw [List.mem_singleton] at hc; rw [← hc, ← e]; exact ha)⟩, fun m hm => ?_, fun i m hm k hkm => ?_⟩
  · rcases List.mem_append.mp hm with h | h
    · exact b.sub m h
    · rw [List.mem_singleton.mp h]; exact hn
  · by_cases hi : i < rd.length
    · rw [List.getElem?_append_left hi] at hm
      rw [List.take_append_of_le_length (by omega)]
      exact b.ord i m hm k hkm
    · have hl := (List.getElem?_eq_some_iff.mp hm).1
      rw [List.length_append, List.length_singleton] at hl
      have ei : i = rd.length := by omega
      subst ei
      rw [List.getElem?_append_right (Nat.le_refl _), Nat.sub_self] at hm
      have : m = n := by simpa using hm.symm
      subst this
      rw [List.take_append_of_le_length (Nat.le_refl _), List.take_length]
      exact hk k hkm
def gIsr : AF := fun ws σ Q _ => ∃ zs cs d, ws = [.d (ledD (ledP cs (names cs))), .d d] ∧ Wld zs cs ∧ Od d ∧ ∀ b, (b = true ↔ isRd cs d) → Q (.d (.bool b)) σ
instance : MoF gIsr := ⟨fun k ⟨a, b, c, h, h1, h2, q⟩ => ⟨a, b, c, h, h1, h2, fun x hx => k _ _ (q x hx)⟩⟩
end Lw

set_option maxHeartbeats 4000000
/-! L11B: k11: what is due of a thing. -/
namespace Lw
open PySem PySem.Spec PyProof.Rows L2 Mw Aw
def bolB : PyData → Bool
  | .bool _ => true
  | _ => false
def g11Due : AF := fun ws σ Q _ => ∃ zs cs w d, ws = [.ref w, .d (.list ((srt (names cs)).map nmD)), .d d] ∧ WdA σ w cs ∧ Wld zs cs ∧ Od d ∧ ∀ b, (b = true ↔ isRd cs d) → Q (.d (.bool b)) σ
instance : MoF g11Due := ⟨fun k ⟨a, b, c, d, h, h1, h2, h3, q⟩ => ⟨a, b, c, d, h, h1, h2, h3, fun x hx => k _ _ (q x hx)⟩⟩
end Lw

set_option maxHeartbeats 4000000
/-! L11C: k11: bent roads. -/
namespace Lw
open PySem PySem.Spec PyProof.Rows L2 Mw Aw
structure It (x : PyData) : Prop where
  f : fine x = true
  w : wt x ≤ 9000
  p : x.depth ≤ 2
def IL (ds : List PyData) (n : Nat) : Prop := (∀ x ∈ ds, It x) ∧ ds.length ≤ n
theorem IL.app {xs ys : List PyData} {n m : Nat} (a : IL xs n) (b : IL ys m) : IL (xs ++ ys) (n + m) :=
  ⟨fun x hx => (List.mem_append.mp hx).elim (a.1 x) (b.1 x), by rw [List.length_append]; have := a.2; have := b.2; omega⟩
theorem IL.cut {xs : List PyData} {n : Nat} (a : IL xs n) (lo hi : Option Int) : IL (cutL xs lo hi) n := ⟨fun x hx => a.1 x (cutL_mem hx), Nat.le_trans (cutL_len xs lo hi) a.2⟩
theorem IL.one {x : PyData} (h : It x) : IL [x] 1 := ⟨fun y hy => by rw [List.mem_singleton.mp hy]; exact h, Nat.le_refl _⟩
theorem IL.fineAll : ∀ {xs : List PyData}, (∀ x ∈ xs, It x) → fineAll xs = true ∧ wtAll xs ≤ 9002 * xs.length ∧ PyData.depthAll xs ≤ 2
  | [], _ => ⟨rfl, by simp [wtAll], by simp [PyData.depthAll]⟩
  | x :: xs, h => by
    obtain ⟨a, b, c⟩ := IL.fineAll (xs := xs) fun y hy => h y (List.mem_cons_of_mem _ hy)
    have hx := h x (by simp)
    have h1 := hx.w
    have h2 := hx.p
    refine ⟨by rw [Mw.fineAll, hx.f, a]; rfl, ?_, ?_⟩
    · rw [wtAll, List.length_cons]; omega
    · rw [PyData.depthAll]; omega
theorem IL.od {xs : List PyData} {n : Nat} (a : IL xs n) (h : n ≤ 100) : Od (.tuple xs) := by
  obtain ⟨h1, h2, h3⟩ := IL.fineAll a.1
  have h4 := a.2
  have h5 : 9002 * xs.length ≤ 9002 * 100 := Nat.mul_le_mul_left _ (by omega)
  refine ⟨by rw [fine]; exact h1, by rw [wt]; omega, by rw [PyData.depth]; omega⟩
def Sc (x : PyData) : Prop := fine x = true ∧ wt x ≤ 2000 ∧ x.depth = 0
theorem sc_all : ∀ {ds : List PyData}, (∀ x ∈ ds, Sc x) → fineAll ds = true ∧ wtAll ds ≤ 2002 * ds.length ∧ PyData.depthAll ds ≤ 0
  | [], _ => ⟨rfl, by simp [wtAll], by simp [PyData.depthAll]⟩
  | x :: xs, h => by
    obtain ⟨a, b, c⟩ := sc_all (ds := xs) fun y hy => h y (List.mem_cons_of_mem _ hy)
    obtain ⟨h1, h2, h3⟩ := h x (by simp)
    refine ⟨by rw [Mw.fineAll, h1, a]; rfl, ?_, ?_⟩
    · rw [wtAll, List.length_cons]; omega
    · rw [PyData.depthAll]; omega
theorem it_tup {ds : List PyData} (h : ∀ x ∈ ds, Sc x) (hl : ds.length ≤ 4) : It (.tuple ds) := by
  obtain ⟨a, b, c⟩ := sc_all h
  exact ⟨by rw [fine]; exact a, by rw [wt]; omega, by rw [PyData.depth]; omega⟩
theorem it_list {ds : List PyData} (h : ∀ x ∈ ds, Sc x) (hl : ds.length ≤ 4) : It (.list ds) := by
  obtain ⟨a, b, c⟩ := sc_all h
  exact ⟨by rw [fine]; exact a, by rw [wt]; omega, by rw [PyData.depth]; omega⟩
theorem it_int {i : Int} (h0 : 0 ≤ i) (h : i ≤ 1000) : Sc (.int i) := by
  refine ⟨?_, by rw [wt]; omega, rfl⟩
  rw [fine]
  refine decide_eq_true ?_
  by_cases hz : i.natAbs = 0
  · rw [hz]; decide
  · exact Nat.lt_trans ((Nat.log2_lt hz).mpr (show i.natAbs < 2 ^ 11 by omega)) (by decide)
theorem it_str {z : Str} (h : ∀ c ∈ z.cps.toList, c < 128) (hl : z.length ≤ 20) : Sc (.str z) := by
  refine ⟨?_, by rw [wt]; omega, rfl⟩
  rw [fine]
  exact List.all_eq_true.mpr fun c hc => decide_eq_true (h c hc)
def f11Bent : AF := fun ws σ Q _ => ∃ F rd c, ws = [.ref F, .d (.tuple (rd.map nmD))] ∧ σ[F]? = some c ∧ IsFeed c ∧ rd ≠ [] ∧ rd.length ≤ 16 ∧ (∀ n ∈ rd, NmK n) ∧ ∀ ds n c', IL ds n → n ≤ 65 → IsFeed c' → Q (.d (.tuple ds)) (σ.set F c')
instance : MoF f11Bent := ⟨fun k ⟨F, rd, c, h1, h2, h3, h4, h5, h6, q⟩ => ⟨F, rd, c, h1, h2, h3, h4, h5, h6, fun a b d e f g => k _ _ (q a b d e f g)⟩⟩
end Lw

set_option maxHeartbeats 4000000
/-! L11D: k11: pairs that stand otherwise, told by the program and by the law. -/
namespace Lw
open PySem PySem.Spec PyProof.Rows L2 Mw Aw
def kvI (k : Nat) : List Nm → List (PyData × W)
  | [] => []
  | n :: l => (nmD n, .d (.int (k : Nat))) :: kvI (k + 1) l
def f11Unl : AF := fun ws σ Q _ => ∃ zs cs one other, ws = [.d (.tuple (one.map nmD)), .d (.tuple (other.map nmD))] ∧ Wld zs cs ∧ TwoR cs one other ∧ Q (.d (.int (invs one other : Nat))) σ
instance : MoF f11Unl := ⟨fun k ⟨a, b, c, d, h1, h2, h3, q⟩ => ⟨a, b, c, d, h1, h2, h3, k _ _ q⟩⟩
def f11Oth : AF := f11Unl
instance : MoF f11Oth := inferInstanceAs (MoF f11Unl)
end Lw

set_option maxHeartbeats 4000000
/-! L11E: k11: what two roads are told of; the law. -/
namespace Lw
open PySem PySem.Spec PyProof.Rows L2 Mw Aw
theorem swap_rd {cs : List Ch} {A C : List Nm} {b x : Nm} (R : Rdd cs (A ++ b :: x :: C)) : Rdd cs (A ++ x :: b :: C) ↔ b ∉ knOf cs x := by
  have pm : (A ++ x :: b :: C).Perm (A ++ b :: x :: C) := List.Perm.append_left A (.swap b x C)
  have nd' : (A ++ x :: b :: C).Nodup := pm.nodup_iff.mpr R.nd
  have atx : (A ++ x :: b :: C)[A.length]? = some x := by rw [List.getElem?_append_right (Nat.le_refl _), Nat.sub_self]; rfl
  have tk : ∀ (l : List Nm), (A ++ l).take A.length = A := fun l => by rw [List.take_append_of_le_length (Nat.le_refl _), List.take_length]
  have bA : b ∉ A := fun z => (List.nodup_append.mp R.nd).2.2 b z b (by simp) rfl
  constructor
  · intro R' hk
    have := R'.ord A.length x atx b hk
    rw [tk] at this
    exact bA this
  · intro hb
    refine ⟨nd', fun m => by rw [pm.mem_iff]; exact R.all m, fun i m hm k hk => ?_⟩
    by_cases h1 : i < A.length
    · rw [List.getElem?_append_left h1] at hm
      have := R.ord i m (by rw [List.getElem?_append_left h1]; exact hm) k hk
      rw [List.take_append_of_le_length (by omega)] at this ⊢
      exact this
    · obtain ⟨l, rfl⟩ : ∃ l, i = A.length + l := ⟨i - A.length, by omega⟩
      rw [List.getElem?_append_right (by omega), Nat.add_sub_cancel_left] at hm
      have tko : ∀ l' : List Nm, (A ++ l').take (A.length + l) = A ++ l'.take l := fun l' => by rw [List.take_append, List.take_of_length_le (by omega), Nat.add_sub_cancel_left]
      match l, hm, tko with
      | 0, hm, tko =>
        have : m = x := by simpa using hm.symm
        subst this
        have h2 := R.ord (A.length + 1) m (by rw [List.getElem?_append_right (by omega), Nat.add_sub_cancel_left]; rfl) k hk
        rw [List.take_append, List.take_of_length_le (by omega), Nat.add_sub_cancel_left] at h2
        rw [tko]
        have h2 : k ∈ A ++ [b] := h2
        rcases List.mem_append.mp h2 with h | h
        · exact List.mem_append_left _ h
        · exact absurd hk (by rw [List.mem_singleton.mp h]; exact hb)
      | 1, hm, tko =>
        have : m = b := by simpa using hm.symm
        subst this
        have h2 := R.ord A.length m (by rw [List.getElem?_append_right (by omega), Nat.sub_self]; rfl) k hk
        rw [tk] at h2
        rw [tko]
        exact List.mem_append_left _ h2
      | l + 2, hm, tko =>
        have h2 := R.ord (A.length + (l + 2)) m (by rw [List.getElem?_append_right (by omega), Nat.add_sub_cancel_left]; exact hm) k hk
        rw [tko] at h2 ⊢
        rcases List.mem_append.mp h2 with h | h
        · exact List.mem_append_left _ h
        · refine List.mem_append_right _ ?_
          rw [List.take_succ_cons, List.take_succ_cons] at h ⊢
          simp only [List.mem_cons] at h ⊢
          rcases h with h | h | h
          · exact .inr (.inl h)
          · exact .inl h
          · exact .inr (.inr h)
def f11Rr : AF := fun ws σ Q _ => ∃ F w zs cs one other c, ws = [.ref F, .ref w, .d (.tuple (one.map nmD)), .d (.tuple (other.map nmD))] ∧ σ[F]? = some c ∧ IsFeed c ∧ Off F w ∧ WdA σ w cs ∧ Wld zs cs ∧ TwoR cs one other ∧ ∀ c', IsFeed c' → Q (.d (.bool true)) (σ.set F c')
instance : MoF f11Rr := ⟨fun k ⟨F, w, zs, cs, one, other, c, h1, h2, h3, h4, h5, h6, h7, q⟩ => ⟨F, w, zs, cs, one, other, c, h1, h2, h3, h4, h5, h6, h7, fun a b => k _ _ (q a b)⟩⟩
end Lw

set_option maxHeartbeats 4000000
/-! L11F: k11: the law. -/
namespace Lw
open PySem PySem.Spec PyProof.Rows L2 Mw Aw
/-- a thing of the law -/
structure Tg (d : PyData) : Prop where
  f : fine d = true
  w : wt d ≤ 600000
  p : d.depth ≤ 3
theorem Tg.od {d : PyData} (h : Tg d) : Od d := ⟨h.f, by have := h.w; omega, by have := h.p; omega⟩
theorem IL.tg {xs : List PyData} {n : Nat} (a : IL xs n) (h : n ≤ 65) : Tg (.tuple xs) := by
  obtain ⟨h1, h2, h3⟩ := IL.fineAll a.1
  have h4 := a.2
  have h5 : 9002 * xs.length ≤ 9002 * 65 := Nat.mul_le_mul_left _ (by omega)
  refine ⟨by rw [fine]; exact h1, by rw [wt]; omega, by rw [PyData.depth]; omega⟩
theorem Sc.tg {d : PyData} (h : Sc d) : Tg d := ⟨h.1, by have := h.2.1; omega, by have := h.2.2; omega⟩
instance : MoS aNext := ⟨fun kn _ _ q => kn _ _ q⟩
end Lw

set_option maxHeartbeats 4000000
/-! MwX4: raise C(x, y), C's own __init__ keeping two fields. -/
namespace Mw
open PySem PySem.Spec PyProof.Rows L2
/-- what C's __init__ does: two fields, the later one told first -/
def spI2 (C : Addr) (f g : Str) : Sp := fun vs H Q _ => ∃ (a : Addr) (y z : V), vs = [.ref a, y, z] ∧ H a = some (exo a C none) ∧ ∀ dx, H dx = none → dx ≠ a → Q .non (upd (upd (upd H dx (exd dx [(f, y)])) a (exo a C (some dx))) dx (exd dx [(g, z), (f, y)]))
def tRaise2 (C : Addr) (f g : Str) (ta : TA) (E : XK) : TS := fun _ σ H => tMkO C (spI2 C f g) [] ta σ H fun cls d H' => E cls d H'
section
variable {X : Cx} {E : XK} {C fI : Addr} {fl gl x : Str} {k : Nat} {fd : FuncData} {ps : List Str} {e e2 : Expr} {ta : TA} {p pos pos' : Pos}
theorem ps_raise2 (hc : X.calm = true) (tk : Takes X (fun cls d _ H => E cls d H)) (T : OexC X.K C) (iC : PySem.W.findIn X.K (.ref C) "__init__" = some (some (.ref fI))) (tI : PySem.W.typeIn X.K (.ref fI) = some (.type "function"))
    (F1 : FnOk X.prog X.w X.K X.mg X.base CX0 k fI fd ps (spI2 C fl gl)) (hr : Room (k + 1) X.A) (hb : Binds X.K fd ps []) (hg : Gl X x) (hm : X.mg x = some (.ref C)) (ha : PA X [e, e2] ta)
    (hdb : (x == ("__debug__" : Str)) = false := by decide) (he : starEach [e, e2] X.env = (false, eval e X.env) :: starEach [e2] X.env := by rfl) (hpl : (backTo pos (starEach [e2] X.env)).any (·.1) = false := by rfl) : PS X (.Raise (some (.Call (.Name x p) [e, e2] [] pos)) none pos') (tRaise2 C fl gl ta E) :=
  ps_raise (pos := pos') hc tk (pmk_oex (p := p) T iC tI F1 hr hb .nil pass0 hg hm ha hdb he hpl)
theorem spI2_end {H1 : Hp} {a : Addr} {y z : V} {Q : XK} (na : H1 a = none) (h : ∀ d, H1 d = none → Q (.ref C) (some d) (upd H1 d (.xd [(gl, z), (fl, y)]))) {E0 : XK} :
    spI2 C fl gl [.ref a, y, z] (upd H1 a (exo a C none)) (fun v H2 => v = .non ∧ ∃ (d : Addr) (fs : List (Str × V)), H2 a = some (exo a C (some d)) ∧ H2 d = some (exd d fs) ∧ H1 d = none ∧ Q (.ref C) (some d) (upd (del H2 a) d (.xd fs))) E0 := by
  refine ⟨a, y, z, rfl, upd_same, fun dx nd ne => ⟨rfl, dx, [(gl, z), (fl, y)], ?_, upd_same, ?_, ?_⟩⟩
  · rw [upd_ne (Ne.symm ne), upd_same]
  · rw [upd_ne ne] at nd; exact nd
  · have n2 : H1 dx = none := by rw [upd_ne ne] at nd; exact nd
    have e : upd (del (upd (upd (upd (upd H1 a (exo a C none)) dx (exd dx [(fl, y)])) a (exo a C (some dx))) dx (exd dx [(gl, z), (fl, y)])) a) dx (.xd [(gl, z), (fl, y)]) = upd H1 dx (.xd [(gl, z), (fl, y)]) := by
      funext b
      by_cases hb : b = dx
      · rw [hb, upd_same, upd_same]
      · rw [upd_ne hb, upd_ne hb]
        by_cases hba : b = a
        · rw [hba, del_same, na]
        · rw [del_ne hba, upd_ne hb, upd_ne hba, upd_ne hb, upd_ne hba]
    rw [e]
    exact h dx n2
end
section
variable {P : Program} {w : World} {K : PySem.W.Frag} {mg : Str → Option Value} {base : Heap}
theorem init_ok2 {fI C : Addr} {qual fl gl s1 s2 s3 : Str} {params : Arguments} {scope : Scope} {dV kV doc pm cdv ct oc : Value} {an od : Option Addr} {osl : Array (Option Value)} {p1 p2 p3 p4 q1 q2 q3 q4 : Pos}
    (lk : K.lookup fI = some ⟨oc, od, .func (PySem.W.fnOf "__init__" qual params [.Assign [.Attribute (.Name s1 p1) fl p2] (.Name s2 p3) p4, .Assign [.Attribute (.Name s1 q1) gl q2] (.Name s3 q3) q4] scope dV kV doc pm an cdv ct), osl⟩) (hcd : PySem.W.codeIn K cdv qual = true) (S : FnScope [s1, s2, s3] [s1, s2, s3] scope)
    (T : OexC K C) (hf : PySem.W.findIn K (.ref C) fl = some none) (hg : PySem.W.findIn K (.ref C) gl = some none) (v1 : Vis scope s1) (v2 : Vis scope s2) (v3 : Vis scope s3) (d1 : (s1 == ("__debug__" : Str)) = false) (d2 : (s2 == ("__debug__" : Str)) = false) (d3 : (s3 == ("__debug__" : Str)) = false) (e1 : (s1 == ("__classdict__" : Str)) = false) (e2 : (s2 == ("__classdict__" : Str)) = false) (e3 : (s3 == ("__classdict__" : Str)) = false) :
    FnOk P w K mg base CX0 1 fI (PySem.W.fnOf "__init__" qual params [.Assign [.Attribute (.Name s1 p1) fl p2] (.Name s2 p3) p4, .Assign [.Attribute (.Name s1 q1) gl q2] (.Name s3 q3) q4] scope dV kV doc pm an cdv ct) [s1, s2, s3] (spI2 C fl gl) := by
  refine fn_of lk hcd S (fun vs H Q E h => by obtain ⟨a, y, z, rfl, _⟩ := h; rfl) fun A outer s H vs Q E room hs => ?_
  obtain ⟨a, y, z, rfl, ha, q⟩ := hs
  refine ⟨_, PSs.nox (pss_cons (ps_ost (pv 0 rfl v1 d1 e1) (pv 1 rfl v2 d2 e2)) (pss_one (ps_ost (pv 0 rfl v1 d1 e1) (pv 2 rfl v3 d3 e3)))), ?_⟩
  refine ⟨y, rfl, .ref a, rfl, a, C, rfl, T, hf, .inl ⟨ha, fun dx nd ne => ?_⟩⟩
  exact ⟨z, rfl, .ref a, rfl, a, C, rfl, T, hg, .inr ⟨dx, [(fl, y)], upd_same, by rw [upd_ne ne, upd_same], by simp, q dx nd ne⟩⟩
end
end Mw

set_option maxHeartbeats 4000000
/-! AwX4: refusals with two fields; try .. except C as e. -/
namespace Aw
open PySem PySem.Spec PyProof.Rows L2 Mw
section
variable {Z : Zx} {E : XK} {ta : TA} {fr : AA} {C : Addr} {f g nm : Str} {l : List Xe}
/-- how a refusal of the class at C with two fields is told: the later one first -/
class XrOk2 (Z : Zx) (C : Addr) (f g : Str) (nm : outParam Str) : Prop where
  ok : ∀ {ρ : List Addr} {H : Hp} {d : Addr} {y z : V} {w v : W}, H d = some (.xd [(g, z), (f, y)]) → d ∉ ρ → WR Z.K ρ H y w → WR Z.K ρ H z v → Z.xr ρ H (.ref C) (some d) ⟨nm, [v, w]⟩
class XrIn2 (Z : Zx) (C : Addr) (f g : Str) (nm : outParam Str) : Prop where
  inv : ∀ {ρ : List Addr} {H : Hp} {cls : Value} {od : Option Addr} {x : Xn}, Z.xr ρ H cls od x → x.cls = nm → ∃ d y z w v, cls = .ref C ∧ od = some d ∧ H d = some (.xd [(g, z), (f, y)]) ∧ x.fs = [v, w] ∧ WR Z.K ρ H y w ∧ WR Z.K ρ H z v
theorem xr_ok2 (h : Z.xr = xrOf Z.K l) (m : ⟨nm, C, [g, f]⟩ ∈ l) : XrOk2 Z C f g nm := ⟨fun {ρ H d y z w v} h1 _ h3 h4 => by
  rw [h]
  exact ⟨_, m, rfl, rfl, d, [z, y], rfl, h1, rfl, .cons h4 (.cons h3 .nil)⟩⟩
theorem xr_in2 (h : Z.xr = xrOf Z.K l) (m : ∀ e ∈ l, e.nm = nm → e = ⟨nm, C, [g, f]⟩) : XrIn2 Z C f g nm := ⟨fun {ρ H cls od x} h1 h2 => by
  rw [h] at h1
  obtain ⟨e, he, e1, e2, d, ys, e3, e4, e5, e6⟩ := h1
  have := m e he (e1 ▸ h2)
  subst this
  match ys, e5 with
  | [z, y], _ =>
    generalize hx : x.fs = xs at e6
    cases e6 with
    | cons a b =>
      cases b with
      | cons b c =>
        cases c
        exact ⟨d, y, z, _, _, e2, e3, e4, rfl, b, a⟩⟩
def aRaise2 (nm : Str) (fr : AA) : AS := fun k e σ => fr e σ (fun ws σ1 => ∃ w v, ws = [w, v] ∧ k.ex e ⟨nm, [v, w]⟩ σ1) (k.ex e)
instance sim_raise2 [x : XrOk2 Z C f g nm] [ia : SimA Z (fun _ => E) ta fr] : SimS Z (fun _ => E) (tRaise2 C f g ta E) (aRaise2 nm fr) := ⟨fun {ρ σ H s e k D} r er h kn kr kx =>
  ia.sim r er h (fun ρ' σ' H' vs ws g1 r' v h' => by
    obtain ⟨w, v2, rfl, q⟩ := h'
    cases v with
    | cons vy vr =>
      cases vr with
      | cons vz vr =>
        cases vr
        refine ⟨by simp, fun a na => spI2_end na fun d nd => ?_⟩
        exact kx ρ' σ' _ s e _ _ ⟨nm, [v2, w]⟩ (g1.trans (Go.lay nd)) (r'.lay nd) ((g1.trans (Go.lay nd)).er r er) (x.ok upd_same (r'.fresh nd) ((Go.lay nd).wr r' vy) ((Go.lay nd).wr r' vz)) q) (kx.at_ r er)⟩
end
/-! ### try .. except C as e -/
theorem takes_len {X : Cx} {W : WX} (t : Takes X W) : Takes X (fun cls d σ H => σ.length = X.N.length → W cls d σ H) := fun u s' ⟨a, B, sI, pins, σ, H, cls, d, e, I, nb, up, sky, na, os, ag, w⟩ =>
  t u s' ⟨a, B, sI, pins, σ, H, cls, d, e, I, nb, up, sky, na, os, ag, w I.len⟩
def tTryG (K : PySem.W.Frag) (c : Value) (i n : Nat) (tbF : XK → TS) (ts : Addr → Value → Option Addr → TS) : TS := fun D σ H => ∃ F : XK, (∀ cls d σ' H', F cls d H' → σ'.length = n → wAs K c i ts (fun _ _ _ _ => False) D cls d σ' H') ∧ tbF F D σ H
theorem ps_tryG {X : Cx} {K : PySem.W.Frag} {x nm : Str} {c : Value} {i n : Nat} {body suite : List Stmt} {b₀ : Stmt} {np pos pos' : Pos} {tbF : XK → TS} {ts : Addr → Value → Option Addr → TS} (hK : X.K = K) (hn : X.N.length = n) (hs : X.stack = X.env :: X.outer) (hf : X.env.frame = some X.env.locals) (hN : X.N.Nodup) (hi : X.N[i]? = some nm) (hln : X.env.kindOf nm = some .local) (hc : Names X x c)
    (hb : ∀ (pn : List (Addr × Obj)) (xe : Value → Shared → Prop) (F : XK), Takes (X.tr pn xe) (fun cls d _ H => F cls d H) → PassesOwn (model X.prog X.w) X.A X.env xe → PSs (X.tr pn xe) body (tbF F))
    (hsu : ∀ (a : Addr) (oe : Obj) (cls : Value) (d : Option Addr) (pn : List (Addr × Obj)), Zc cls d oe → (∃ vs, oe.data = .fields vs) → PSs (X.suite a ((a, oe) :: pn)) (b₀ :: suite) (ts a cls d)) :
    PS X (.Try body [.ExceptHandler (some (.Name x np)) (some nm) (b₀ :: suite) pos'] [] [] pos) (tTryG K c i n tbF ts) := by
  subst hK hn
  have h := ps_try_as (np := np) (pos := pos) (pos' := pos') (Wout := fun _ _ _ _ => False) (tb := fun W D σ H => ∃ F : XK, (∀ cls d σ' H', F cls d H' → σ'.length = X.N.length → W cls d σ' H') ∧ tbF F D σ H) (ts := ts) hs hf hN hi hln hc (fun u s' ⟨_, _, _, _, _, _, _, _, _, _, _, _, _, _, _, _, w⟩ => w.elim)
    (fun W pn xe tk po => ⟨fun pins s σ H D I ⟨F, hF, h⟩ => (hb pn xe F ((takes_len tk).imp fun cls d σ' H' f hl => hF cls d σ' H' f hl) po).run pins s σ H D I h⟩) hsu
  exact h
class SimH (Z : Zx) (n i : Nat) (c : Value) (ts : Addr → Value → Option Addr → TS) (ah : outParam (Xn → AS)) : Prop where
  sim : ∀ {ρ : List Addr} {σ : Sto} {H : Hp} {cls : Value} {od : Option Addr} {x : Xn} {k : AK} {D : Ends} {s : L2.St}, Rel Z.K Z.T ρ σ H → Z.xr ρ H cls od x → s.length = n → ah x k (List.replicate n none) σ → KS Z ρ H k.nx D.nx →
    PySem.W.exmOne Z.K cls c = some true ∧ ∀ a, H a = none → ts a cls od { nx := fun σ' H' => D.nx (σ'.set i none) H', rt := D.rt, bk := fun σ' H' => D.bk (σ'.set i none) H', ct := fun σ' H' => D.ct (σ'.set i none) H' } (s.set i (some (.ref a))) H
def aTryG (n : Nat) (ab : AS) (ah : Xn → AS) : AS := fun k e σ => e.length = n ∧ ab { k with ex := fun _ x σ1 => ah x k (List.replicate n none) σ1 } e σ
instance sim_try {Z : Zx} {E : L2.St → XK} {c : Value} {i n : Nat} {tbF : XK → TS} {ts : Addr → Value → Option Addr → TS} {ab : AS} {ah : Xn → AS} [ib : ∀ F : XK, SimS Z (fun _ => F) (tbF F) ab] [ih : SimH Z n i c ts ah] : SimS Z E (tTryG Z.K c i n tbF ts) (aTryG n ab ah) := ⟨fun {ρ σ H s e k D} r er h kn kr kx => by
  obtain ⟨hl, h⟩ := h
  refine ⟨fun cls d H' => ∃ ρ' σ' x, Go Z.T ρ H ρ' H' ∧ Rel Z.K Z.T ρ' σ' H' ∧ Z.xr ρ' H' cls d x ∧ ah x k (List.replicate n none) σ', fun cls d σ' H' hF hl' => ?_, ?_⟩
  · obtain ⟨ρ', σ1, x, g, r', xr, q⟩ := hF
    obtain ⟨h1, h2⟩ := ih.sim r' xr hl' q (kn.go g)
    exact ⟨true, h1, fun _ a na => h2 a na, fun z => nomatch z⟩
  · exact (ib _).sim r er h kn kr fun ρ' σ' H' s' e' cls od x g r' _ xr q => ⟨ρ', σ', x, g, r', xr, q⟩⟩
/-! ### found = (m, e.f) -/
section
variable {Z : Zx} {C CP : Addr} {f g nm : Str} {i j n : Nat}
theorem er_blank {K : PySem.W.Frag} {ρ : List Addr} {H : Hp} : ∀ s : L2.St, ER K ρ H s (List.replicate s.length none)
  | [] => .nil
  | a :: s => .cons (by cases a <;> exact True.intro) (er_blank s)
/-- the first field alone -/
def hFst (nm m : Str) (j : Nat) (n : Nat) : Xn → AS := fun x k e σ => x.cls = nm ∧ ∃ da dw, x.fs = [.d da, .d dw] ∧ k.nx (e.set j (some (.d (.tuple [.str m, dw])))) σ
theorem sim_hFst {m : Str} (hij : i ≠ j) (hin : i < n) [X : XrIn2 Z C f g nm] (xm : PySem.W.exmOne Z.K (.ref C) (.ref CP) = some true) (hfg : f ≠ g) : SimH Z n i (.ref CP) (fun a cls d => tAsg (tTupF (tCons (tC (.str m)) (tCons (tXf a cls d C f (tVar i)) tNil))) (gName j)) (hFst nm m j n) := ⟨fun {ρ σ H cls od x k D s} r xr hl q kn => by
  obtain ⟨e0, da, dw, ef, q⟩ := q
  obtain ⟨d, y, z, w, v, rfl, rfl, hd, ef2, wy, wz⟩ := X.inv xr e0
  rw [ef] at ef2
  cases ef2
  refine ⟨xm, fun a na => ?_⟩
  have lk : ([(g, z), (f, y)] : List (Str × V)).lookup f = some y := by
    rw [List.lookup_cons, show (f == g) = false from beq_eq_false_iff_ne.mpr hfg]
    simp [List.lookup_cons]
  refine ⟨.ref a, List.getElem?_set_self (by omega), rfl, rfl, d, _, y, rfl, hd, lk, by rw [sizeLine_eq]; simp, .inl fun p np => ?_⟩
  have gl : Go Z.T ρ H ρ (upd H p (.tup [.str m, y])) := Go.lay np
  refine kn ρ σ _ _ _ gl (r.lay np) ?_ q
  have e1 := er_blank (K := Z.K) (ρ := ρ) (H := upd H p (.tup [.str m, y])) s
  rw [hl] at e1
  have e2 : ER Z.K ρ (upd H p (.tup [.str m, y])) (((s.set i (some (.ref a))).set j (some (.ref p))).set i none) ((((List.replicate n none).set i none).set j (some (.d (.tuple [.str m, dw])))).set i none) := by
    refine Paired.set (R := OR Z.K ρ (upd H p (.tup [.str m, y]))) (x := none) (u := none) True.intro i (Paired.set (R := OR Z.K ρ (upd H p (.tup [.str m, y]))) (x := some (.ref p)) (u := some (.d (.tuple [.str m, dw]))) (by exact Rp.tup (.of upd_same rfl) (.cons (.str _) (.cons (gl.rp r wy) .nil))) j ?_)
    exact Paired.set (R := OR Z.K ρ (upd H p (.tup [.str m, y]))) (x := some (.ref a)) (u := none) True.intro i e1
  have e3 : (((List.replicate n (none : Option W)).set i none).set j (some (.d (.tuple [.str m, dw])))).set i none = (List.replicate n none).set j (some (.d (.tuple [.str m, dw]))) := by
    have e4 : (List.replicate n (none : Option W)).set i none = List.replicate n none := by
      refine List.ext_getElem? fun l => ?_
      by_cases h : l = i
      · subst h; rw [List.getElem?_set_self (by simpa using hin), List.getElem?_replicate, if_pos hin]
      · rw [List.getElem?_set_ne (Ne.symm h)]
    rw [e4, List.set_comm _ _ (Ne.symm hij), e4]
  rw [e3] at e2
  exact e2⟩
end
end Aw

set_option maxHeartbeats 8000000
set_option synthInstance.maxHeartbeats 2000000
set_option synthInstance.maxSize 100000
/-! L14P: k14: its own defs as abstract programs (generated). -/
namespace Lw
open PySem PySem.Spec PyProof.Rows L2 Mw Aw
noncomputable abbrev p14Ito : AS := (aRet (aAndV (aIsi "tuple" (aVar 1)) (aOp (ra2 (eqF false)) (aCB lenW (aCons (aVar 1) aNil)) (aVar 0))))
noncomputable abbrev p14Num : AS := (aRet (aAndV (aIsi "int" (aVar 0)) (aNotV (aIsi "bool" (aVar 0)))))
noncomputable abbrev p14Plc (fNum : AF) : AS := (aRet (aAndV (aCall fNum 1 (aCons (aVar 1) aNil)) (aChain (ra2 (ordF fLe)) (ra2 (ordF fLt)) (aD (.int 0)) (aVar 1) (aVar 0))))
noncomputable abbrev p14Sml : AS := (aRet (aChain (ra2 (ordF fLe)) (ra2 (ordF fLe)) (aD (.str "a")) (aVar 0) (aD (.str "z"))))
noncomputable abbrev p14Wrd (fSml : AF) : AS := (aSeq (aIfS (aNot (aTest (aIsi "str" (aVar 0))))
    (aRet (aD (.bool false)))
    aNext)
  (aRet (aAndV (aChain (ra2 (ordF fLe)) (ra2 (ordF fLe)) (aD (.int 1)) (aCB lenW (aCons (aVar 0) aNil)) (aD (.int 8))) (aAllG (aIt (aVar 0)) (agN 1) aYes (aCall fSml 1 (aCons (aVar 1) aNil)) [1] true))))
noncomputable abbrev p14Isn (fWrd fNum fIto : AF) : AS := (aSeq (aIfS (aNot (aTest (aCall fIto 2 (aCons (aD (.int 2)) (aCons (aVar 0) aNil)))))
    (aRet (aD (.bool false)))
    aNext)
  (aRet (aAndV (aCall fNum 1 (aCons (aOp ixW (aVar 0) (aD (.int 0))) aNil)) (aAndV (aOp (ra2 (ordF fGe)) (aOp ixW (aVar 0) (aD (.int 0))) (aD (.int 1))) (aCall fWrd 1 (aCons (aOp ixW (aVar 0) (aD (.int 1))) aNil))))))
noncomputable abbrev p14By : AS := (aRet (aDcT (aIt (aVar 0)) (agN 1) aYes (aOp ixW (aVar 1) (aD (.int 0))) (aVar 1) [1]))
noncomputable abbrev p14Eby : AS := (aSeq (aAsg (aDcT (aIt (aVar 0)) (agN 3) aYes (aVar 3) (aD (.bool true)) [3]) (agN 2))
  (aSeq (aFor (aIt (aVar 0)) (agN 3)
    (aFor (aIt (aOp ixW (aVar 1) (aVar 3))) (agN 4)
    (aDPut (aVar 2) (aVar 4) (aD (.bool true)))))
  (aRet (aVar 2))))
noncomputable abbrev p14Kno (fEby : AF) : AS := (aSeq (aAsg (aDNew true) (agN 1))
  (aSeq (aFor (aIt (aVar 0)) (agN 2)
    (aDPut (aVar 1) (aOp ixW (aVar 2) (aD (.int 0))) (aCall fEby 2 (aCons (aOp ixW (aVar 2) (aD (.int 2))) (aCons (aVar 1) aNil)))))
  (aRet (aVar 1))))
noncomputable abbrev p14Cho (fIsn : AF) : AS := (aSeq (aIfS (aTest (aCall fIsn 1 (aCons (aVar 1) aNil)))
    (aFor (aIt (aVar 0)) (agN 2)
    (aIfS (aTest (aOp (ra2 (eqF false)) (aOp ixW (aVar 2) (aD (.int 0))) (aVar 1)))
    (aRet (aVar 2))
    aNext))
    aNext)
  aNever)
noncomputable abbrev p14Kns (fKno fCho : AF) : AS := (aSeq (aAsg (aCall fCho 2 (aCons (aVar 0) (aCons (aVar 1) aNil))) (agN 3))
  (aSeq (aAsg (aCall fCho 2 (aCons (aVar 0) (aCons (aVar 2) aNil))) (agN 4))
  (aRet (aOp (inW false) (aOp ixW (aVar 4) (aD (.int 0))) (aOp ixW (aCall fKno 1 (aCons (aVar 0) aNil)) (aOp ixW (aVar 3) (aD (.int 0))))))))
noncomputable abbrev p14Isr (fIsn fBy : AF) : AS := (aSeq (aIfS (aOr (aNot (aTest (aIsi "tuple" (aVar 1)))) (aTest (aOp (ra2 (eqF true)) (aCB lenW (aCons (aVar 1) aNil)) (aCB lenW (aCons (aVar 0) aNil)))))
    (aRet (aD (.bool false)))
    aNext)
  (aSeq (aAsg (aCall fBy 1 (aCons (aVar 0) aNil)) (agN 2))
  (aSeq (aAsg (aDNew true) (agN 3))
  (aSeq (aFor (aIt (aVar 1)) (agN 4)
    (aSeq (aIfS (aOr (aNot (aTest (aCall fIsn 1 (aCons (aVar 4) aNil)))) (aOr (aTest (aOp (inW true) (aVar 4) (aVar 2))) (aTest (aOp (inW false) (aVar 4) (aVar 3)))))
    (aRet (aD (.bool false)))
    aNext)
  (aSeq (aIfS (aNot (aTest (aAllG (aIt (aOp ixW (aOp ixW (aVar 2) (aVar 4)) (aD (.int 2)))) (agN 5) aYes (aOp (inW false) (aVar 5) (aVar 3)) [5] true)))
    (aRet (aD (.bool false)))
    aNext)
  (aDPut (aVar 3) (aVar 4) (aD (.bool true))))))
  (aRet (aD (.bool true)))))))
noncomputable abbrev p14Exd : AS := (aRet (aOp (ra2 addD) (aOp (ra2 addD) (aSl (aVar 0) aNoP (aPart (aVar 1))) (aTup (aCons (aOp ixW (aVar 0) (aOp (ra2 addD) (aVar 1) (aD (.int 1)))) (aCons (aOp ixW (aVar 0) (aVar 1)) aNil)))) (aSl (aVar 0) (aPart (aOp (ra2 addD) (aVar 1) (aD (.int 2)))) aNoP)))
noncomputable abbrev p14Unl : AS := (aSeq (aAsg (aDcT (aEnum (aCons (aVar 1) aNil)) (agT 2 (agCons (agN 3) (agCons (agN 4) agNil))) aYes (aVar 4) (aVar 3) [3, 4]) (agN 2))
  (aSeq (aAsg (aD (.int 0)) (agN 5))
  (aSeq (aFor (aEnum (aCons (aVar 0) aNil)) (agT 2 (agCons (agN 3) (agCons (agN 4) agNil)))
    (aAugI (fun i j => i + j) 5 (aCB lenW (aCons (aLc (aIt (aSl (aVar 0) aNoP (aPart (aVar 3)))) (agN 6) (aTest (aOp (ra2 (ordF fGt)) (aOp ixW (aVar 2) (aVar 6)) (aOp ixW (aVar 2) (aVar 4)))) (aVar 6) [6]) aNil))))
  (aRet (aVar 5)))))
noncomputable abbrev p14Lex (fExd fKno fPlc : AF) : AS := (aSeq (aIfS (aNot (aTest (aIsi "tuple" (aVar 3))))
    (aRaise2 "NoPaper" (aCons (aD (.str "shape")) (aCons (aUn (ra1 negD) (aD (.int 1))) aNil)))
    aNext)
  (aSeq (aFor (aEnum (aCons (aVar 3) aNil)) (agT 2 (agCons (agN 4) (agCons (agN 5) agNil)))
    (aIfS (aNot (aTest (aCall fPlc 2 (aCons (aOp (ra2 subD) (aCB lenW (aCons (aVar 1) aNil)) (aD (.int 1))) (aCons (aVar 5) aNil)))))
    (aRaise2 "NoPaper" (aCons (aD (.str "place")) (aCons (aVar 4) aNil)))
    aNext))
  (aSeq (aAsg (aCall fKno 1 (aCons (aVar 0) aNil)) (agN 6))
  (aSeq (aAsg (aVar 1) (agN 7))
  (aSeq (aFor (aEnum (aCons (aVar 3) aNil)) (agT 2 (agCons (agN 4) (agCons (agN 5) agNil)))
    (aSeq (aIfS (aTest (aOp (inW false) (aOp ixW (aVar 7) (aVar 5)) (aOp ixW (aVar 6) (aOp ixW (aVar 7) (aOp (ra2 addD) (aVar 5) (aD (.int 1)))))))
    (aRaise2 "NoPaper" (aCons (aD (.str "known")) (aCons (aVar 4) aNil)))
    aNext)
  (aAsg (aCall fExd 2 (aCons (aVar 7) (aCons (aVar 5) aNil))) (agN 7))))
  (aSeq (aIfS (aTest (aOp (ra2 (eqF true)) (aVar 7) (aVar 2)))
    (aRaise2 "NoPaper" (aCons (aD (.str "end")) (aCons (aUn (ra1 negD) (aD (.int 1))) aNil)))
    aNext)
  (aRet (aCB lenW (aCons (aVar 3) aNil)))))))))
noncomputable abbrev p14Exp (fExd : AF) : AS := (aSeq (aAsg (aVar 1) (agN 3))
  (aSeq (aAsg (aLstC aNil) (agN 4))
  (aSeq (aFor (aEnum (aCons (aVar 2) aNil)) (agT 2 (agCons (agN 5) (agCons (agN 6) agNil)))
    (aFor (aR3 (aCons (aOp (ra2 subD) (aBMT idxW (aVar 3) (aCons (aVar 6) aNil)) (aD (.int 1))) (aCons (aOp (ra2 subD) (aVar 5) (aD (.int 1))) (aCons (aUn (ra1 negD) (aD (.int 1))) aNil)))) (agN 7)
    (aSeq (aAsg (aCall fExd 2 (aCons (aVar 3) (aCons (aVar 7) aNil))) (agN 3))
  (aDrop (aBM "list" appendW (aVar 4) (aCons (aVar 7) aNil))))))
  (aRet (aCB tupleW (aCons (aVar 4) aNil))))))
noncomputable abbrev p14Wlk (fUnl fIsr fExd : AF) : AS := (aSeq (aAsg (aVar 1) (agN 4))
  (aSeq (aAsg (aCall fUnl 2 (aCons (aVar 1) (aCons (aVar 2) aNil))) (agN 5))
  (aSeq (aFor (aIt (aVar 3)) (agN 6)
    (aSeq (aAsg (aCall fExd 2 (aCons (aVar 4) (aCons (aVar 6) aNil))) (agN 4))
  (aSeq (aIfS (aOr (aTest (aNoB true (aCall fIsr 2 (aCons (aVar 0) (aCons (aVar 4) aNil))))) (aOr (aTest (aOp (ra2 (eqF true)) (aCall fUnl 2 (aCons (aVar 4) (aCons (aVar 2) aNil))) (aOp (ra2 subD) (aVar 5) (aD (.int 1))))) (aTest (aOp (ra2 (ordF fLt)) (aVar 5) (aD (.int 1))))))
    (aRet (aD (.bool false)))
    aNext)
  (aAsg (aOp (ra2 subD) (aVar 5) (aD (.int 1))) (agN 5)))))
  (aRet (aAndV (aOp (ra2 (eqF false)) (aVar 5) (aD (.int 0))) (aOp (ra2 (eqF false)) (aVar 4) (aVar 2)))))))
noncomputable abbrev p14Let (fLex : AF) : AS := (aSeq (aAsg (aTup (aCons (aD (.str "no")) (aCons (aD .none) aNil))) (agN 4))
  (aSeq (aTryG 6 (aAsg (aTup (aCons (aD (.str "told")) (aCons (aCall fLex 4 (aCons (aVar 0) (aCons (aVar 1) (aCons (aVar 2) (aCons (aVar 3) aNil))))) aNil))) (agN 4)) (hFst "NoPaper" "no" 4 6))
  (aRet (aVar 4))))
noncomputable abbrev p14Wnd (fDraw fKns fExd : AF) : AS := (aSeq (aAsg (aLstC aNil) (agN 3))
  (aSeq (aFor (aR1 (aCons (aOp (ra2 mulD) (aCall fDraw 2 (aCons (aVar 0) (aCons (aD (.int 13)) aNil))) (aCB intW (aCons (aOp (ra2 (ordF fGt)) (aCB lenW (aCons (aVar 2) aNil)) (aD (.int 1))) aNil))) aNil)) (agN 4)
    (aSeq (aAsg (aCall fDraw 2 (aCons (aVar 0) (aCons (aOp (ra2 subD) (aCB lenW (aCons (aVar 2) aNil)) (aD (.int 1))) aNil))) (agN 5))
  (aIfS (aTest (aIsB false (aCall fKns 3 (aCons (aVar 1) (aCons (aOp ixW (aVar 2) (aOp (ra2 addD) (aVar 5) (aD (.int 1)))) (aCons (aOp ixW (aVar 2) (aVar 5)) aNil))))))
    (aSeq (aDrop (aBM "list" appendW (aVar 3) (aCons (aVar 5) aNil)))
  (aAsg (aCall fExd 2 (aCons (aVar 2) (aCons (aVar 5) aNil))) (agN 2)))
    aNext)))
  (aRet (aTup (aCons (aCB tupleW (aCons (aVar 3) aNil)) (aCons (aVar 2) aNil))))))
noncomputable abbrev p14Law (fLet fDraw fExp fWnd fWlk fUnl fRoad fLedger fWorld fWords fFeed : AF) : AS := (aSeq (aAsg (aCall fFeed 1 (aCons (aVar 0) aNil)) (agN 1))
  (aSeq (aAsg (aCall fWords 2 (aCons (aVar 1) (aCons (aOp (ra2 addD) (aD (.int 1)) (aCall fDraw 2 (aCons (aVar 1) (aCons (aD (.int 6)) aNil)))) aNil))) (agN 2))
  (aSeq (aAsg (aCall fWorld 3 (aCons (aVar 1) (aCons (aVar 2) (aCons (aCall fDraw 2 (aCons (aVar 1) (aCons (aD (.int 17)) aNil))) aNil)))) (agN 3))
  (aSeq (aAsg (aCB srtW (aCons (aOp ixW (aVar 3) (aD (.str "changes"))) aNil)) (agN 4))
  (aSeq (aAsg (aCall fLedger 2 (aCons (aVar 3) (aCons (aVar 4) aNil))) (agN 5))
  (aSeq (aPar 6 7 (aCons (aCall fRoad 3 (aCons (aVar 1) (aCons (aVar 3) (aCons (aVar 4) aNil)))) (aCons (aCall fRoad 3 (aCons (aVar 1) (aCons (aVar 3) (aCons (aVar 4) aNil)))) aNil)))
  (aSeq (aPar 8 9 (aCons (aCall fExp 3 (aCons (aVar 5) (aCons (aVar 6) (aCons (aVar 7) aNil)))) (aCons (aCall fUnl 2 (aCons (aVar 6) (aCons (aVar 7) aNil))) aNil)))
  (aSeq (aIfS (aOr (aNot (aTest (aIsi "tuple" (aVar 8)))) (aOr (aTest (aOp (ra2 (eqF true)) (aCB lenW (aCons (aVar 8) aNil)) (aVar 9))) (aTest (aOp (ra2 (eqF true)) (aCall fLet 4 (aCons (aVar 5) (aCons (aVar 6) (aCons (aVar 7) (aCons (aVar 8) aNil))))) (aTup (aCons (aD (.str "told")) (aCons (aVar 9) aNil)))))))
    (aRet (aD (.bool false)))
    aNext)
  (aSeq (aIfS (aNot (aTest (aCall fWlk 4 (aCons (aVar 5) (aCons (aVar 6) (aCons (aVar 7) (aCons (aVar 8) aNil)))))))
    (aRet (aD (.bool false)))
    aNext)
  (aSeq (aAsg (aCall fWnd 3 (aCons (aVar 1) (aCons (aVar 5) (aCons (aVar 6) aNil)))) (agT 2 (agCons (agN 10) (agCons (agN 11) agNil))))
  (aSeq (aAsg (aOp (ra2 addD) (aVar 10) (aCall fExp 3 (aCons (aVar 5) (aCons (aVar 11) (aCons (aVar 7) aNil))))) (agN 12))
  (aSeq (aIfS (aOr (aTest (aOp (ra2 (eqF true)) (aCall fLet 4 (aCons (aVar 5) (aCons (aVar 6) (aCons (aVar 7) (aCons (aVar 12) aNil))))) (aTup (aCons (aD (.str "told")) (aCons (aCB lenW (aCons (aVar 12) aNil)) aNil))))) (aTest (aOp (ra2 (eqF true)) (aOp (ra2 modD) (aOp (ra2 subD) (aCB lenW (aCons (aVar 12) aNil)) (aVar 9)) (aD (.int 2))) (aD (.int 0)))))
    (aRet (aD (.bool false)))
    aNext)
  (aSeq (aAsg (aIf (aTest (aOp (ra2 (ordF fGt)) (aVar 9) (aD (.int 0)))) (aSl (aVar 12) aNoP (aPart (aCall fDraw 2 (aCons (aVar 1) (aCons (aOp (ra2 addD) (aVar 9) (aD (.int 1))) aNil))))) (aTup aNil)) (agN 13))
  (aSeq (aIfS (aAnd (aTest (aOp (ra2 (ordF fLt)) (aCB lenW (aCons (aVar 13) aNil)) (aVar 9))) (aTest (aOp (ra2 (eqF true)) (aCall fLet 4 (aCons (aVar 5) (aCons (aVar 6) (aCons (aVar 7) (aCons (aVar 13) aNil))))) (aTup (aCons (aD (.str "no")) (aCons (aD (.str "end")) aNil))))))
    (aRet (aD (.bool false)))
    aNext)
  (aRet (aAndV (aOp (ra2 (ordF fGe)) (aCB lenW (aCons (aVar 12) aNil)) (aVar 9)) (aOp (ra2 (eqF false)) (aCall fLet 4 (aCons (aVar 5) (aCons (aVar 7) (aCons (aVar 7) (aCons (aTup aNil) aNil))))) (aTup (aCons (aD (.str "told")) (aCons (aD (.int 0)) aNil))))))))))))))))))))
end Lw

set_option maxHeartbeats 4000000
/-! L14A: lets_exchanges of any thing. -/
namespace Lw
open PySem PySem.Spec PyProof.Rows L2 Mw Aw
def plcB (n : Int) : PyData → Bool
  | .int i => decide (0 ≤ i) && decide (i < n)
  | _ => false
def gPlc : AF := fun ws σ Q _ => ∃ (n : Int) (d : PyData), ws = [.d (.int n), .d d] ∧ Od d ∧ Q (.d (.bool (plcB n d))) σ
instance : MoF gPlc := ⟨fun k ⟨a, b, h, h1, q⟩ => ⟨a, b, h, h1, k _ _ q⟩⟩
def bdP (n : Int) (ds : List PyData) (i : Nat) : Bool := match ds[i]? with
  | some x => !plcB n x
  | none => false
def toP : PyData → Nat
  | .int i => i.toNat
  | _ => 0
def bdK (kn : Nm → List Nm) (one : List Nm) (ps : List Nat) (i : Nat) : Bool := match ps[i]? with
  | some p => match (wks one (ps.take i))[p]?, (wks one (ps.take i))[p + 1]? with
    | some b, some x => decide (b ∈ kn x)
    | _, _ => false
  | none => false
def letsR (kn : Nm → List Nm) (one other : List Nm) : PyData → Except (Str × Int) Nat
  | .tuple ds => match (List.range ds.length).find? (bdP ((one.length : Nat) - 1) ds) with
    | some k => .error ("place", (k : Nat))
    | none => match (List.range ds.length).find? (bdK kn one (ds.map toP)) with
      | some k => .error ("known", (k : Nat))
      | none => if wks one (ds.map toP) = other then .ok ds.length else .error ("end", -1)
  | _ => .error ("shape", -1)
def outR (Q : QK) (X : XQ) (σ : Sto) : Except (Str × Int) Nat → Prop
  | .ok n => Q (.d (.int (n : Nat))) σ
  | .error (w, a) => X ⟨"NoPaper", [.d (.int a), .d (.str w)]⟩ σ
def gLex : AF := fun ws σ Q X => ∃ zs cs one other d, ws = [.d (ledD (ledP cs (names cs))), .d (.tuple (one.map nmD)), .d (.tuple (other.map nmD)), .d d] ∧ Wld zs cs ∧ Rdd cs one ∧ Rdd cs other ∧ Od d ∧ outR Q X σ (letsR (knOf cs) one other d)
instance : MoF gLex := ⟨fun {ws σ X Q Q'} k ⟨a, b, c, d, e, h, h1, h2, h3, h4, q⟩ => ⟨a, b, c, d, e, h, h1, h2, h3, h4, by
  cases hr : letsR (knOf b) c d e with
  | ok n => rw [hr] at q; exact k _ _ q
  | error p => rw [hr] at q; exact q⟩⟩
end Lw

set_option maxHeartbeats 4000000
/-! L14B: k14: what exchanges do to the pairs that stand otherwise; what a walk is told. -/
namespace Lw
open PySem PySem.Spec PyProof.Rows L2 Mw Aw
section
variable {cs : List Ch} {one other : List Nm} {ps : List Nat}
theorem wk_step (w : Wkp (knOf cs) one ps) {i : Nat} (hi : i < ps.length) : ∃ A b x C, wks one (ps.take i) = A ++ b :: x :: C ∧ A.length = ps[i] ∧ b ∉ knOf cs x ∧ wks one (ps.take (i + 1)) = A ++ x :: b :: C := by
  have hp : ps[i]? = some ps[i] := List.getElem?_eq_getElem hi
  obtain ⟨A, b, x, C, e, el, h⟩ := w i _ hp
  exact ⟨A, b, x, C, e, el, h, by rw [take_snoc hp, wks_snoc, e, ← el, swp_at]⟩
theorem wk_rd (R : Rdd cs one) (w : Wkp (knOf cs) one ps) : ∀ i, i ≤ ps.length → Rdd cs (wks one (ps.take i)) := by
  intro i
  induction i with
  | zero => intro _; exact R
  | succ i ih =>
    intro hi
    obtain ⟨A, b, x, C, e, el, h, e2⟩ := wk_step w (i := i) (by omega)
    have := ih (by omega)
    rw [e] at this
    rw [e2]
    exact (swap_rd this).mpr h
theorem Wkp.take {kn : Nm → List Nm} (w : Wkp kn one ps) (k : Nat) : Wkp kn one (ps.take k) := fun i p hp => by
  have hi := (List.getElem?_eq_some_iff.mp hp).1
  rw [List.length_take] at hi
  rw [List.getElem?_take_of_lt (by omega)] at hp
  rw [List.take_take, Nat.min_eq_left (by omega)]
  exact w i p hp
theorem Wkp.app {kn : Nm → List Nm} {qs : List Nat} (w : Wkp kn one ps) (v : Wkp kn (wks one ps) qs) : Wkp kn one (ps ++ qs) := fun i p hp => by
  by_cases hi : i < ps.length
  · rw [List.getElem?_append_left hi] at hp
    rw [List.take_append_of_le_length (by omega)]
    exact w i p hp
  · rw [List.getElem?_append_right (by omega)] at hp
    rw [List.take_append, List.take_of_length_le (by omega)]
    have := v (i - ps.length) p hp
    rw [show wks one (ps ++ qs.take (i - ps.length)) = wks (wks one ps) (qs.take (i - ps.length)) by simp [wks]]
    exact this
theorem Wkp.lt (R : Rdd cs one) (w : Wkp (knOf cs) one ps) {p : Nat} (h : p ∈ ps) : p + 1 < one.length := by
  obtain ⟨i, hi⟩ := List.getElem?_of_mem h
  have hl := (List.getElem?_eq_some_iff.mp hi).1
  obtain ⟨A, b, x, C, e, el, _⟩ := w i p hi
  have r := wk_rd R w i (by omega)
  have pm : (wks one (ps.take i)).Perm one := (List.perm_ext_iff_of_nodup r.nd R.nd).mpr fun m => by rw [r.all, R.all]
  have := pm.length_eq
  rw [e] at this
  simp at this
  omega
end
/-! ### knows -/
def f14Kns : AF := fun ws σ Q _ => ∃ zs cs c d, ws = [.d (ledD (ledP cs (names cs))), .d (nmD c.nm), .d (nmD d.nm)] ∧ Wld zs cs ∧ c ∈ cs ∧ d ∈ cs ∧ Q (.d (.bool (decide (d.nm ∈ c.kn)))) σ
instance : MoF f14Kns := ⟨fun k ⟨a, b, c, d, h1, h2, h3, h4, q⟩ => ⟨a, b, c, d, h1, h2, h3, h4, k _ _ q⟩⟩
end Lw

set_option maxHeartbeats 4000000
/-! L14C: k14: a walk step by step; a told paper let; a wander. -/
namespace Lw
open PySem PySem.Spec PyProof.Rows L2 Mw Aw
def f14Wlk : AF := fun ws σ Q _ => ∃ zs cs one other ps, ws = [.d (ledD (ledP cs (names cs))), .d (.tuple (one.map nmD)), .d (.tuple (other.map nmD)), .d (.tuple (plD ps))] ∧ Wld zs cs ∧ TwoR cs one other ∧ Wkp (knOf cs) one ps ∧ wks one ps = other ∧ ps.length = invs one other ∧ Q (.d (.bool true)) σ
instance : MoF f14Wlk := ⟨fun k ⟨a, b, c, d, e, h1, h2, h3, h4, h5, h6, q⟩ => ⟨a, b, c, d, e, h1, h2, h3, h4, h5, h6, k _ _ q⟩⟩
/-! ### whether a paper is let -/
def letD : Except (Str × Int) Nat → PyData
  | .ok n => .tuple [.str "told", .int (n : Nat)]
  | .error (w, _) => .tuple [.str "no", .str w]
def f14Let : AF := fun ws σ Q _ => ∃ zs cs one other d, ws = [.d (ledD (ledP cs (names cs))), .d (.tuple (one.map nmD)), .d (.tuple (other.map nmD)), .d d] ∧ Wld zs cs ∧ Rdd cs one ∧ Rdd cs other ∧ Od d ∧ Q (.d (letD (letsR (knOf cs) one other d))) σ
instance : MoF f14Let := ⟨fun k ⟨a, b, c, d, e, h1, h2, h3, h4, h5, q⟩ => ⟨a, b, c, d, e, h1, h2, h3, h4, h5, k _ _ q⟩⟩
/-! ### a wander -/
def f14Wnd : AF := fun ws σ Q _ => ∃ F zs cs one c, ws = [.ref F, .d (ledD (ledP cs (names cs))), .d (.tuple (one.map nmD))] ∧ σ[F]? = some c ∧ IsFeed c ∧ Wld zs cs ∧ Rdd cs one ∧ ∀ ps c', Wkp (knOf cs) one ps → ps.length ≤ 12 → IsFeed c' → Q (.d (.tuple [.tuple (plD ps), .tuple ((wks one ps).map nmD)])) (σ.set F c')
instance : MoF f14Wnd := ⟨fun k ⟨F, zs, cs, one, c, h1, h2, h3, h4, h5, q⟩ => ⟨F, zs, cs, one, c, h1, h2, h3, h4, h5, fun a b x y z => k _ _ (q a b x y z)⟩⟩
end Lw

set_option maxHeartbeats 4000000
/-! L14D: k14: the law. -/
namespace Lw
open PySem PySem.Spec PyProof.Rows L2 Mw Aw
theorem Sc.it {d : PyData} (h : Sc d) : It d := ⟨h.1, by have := h.2.1; omega, by have := h.2.2; omega⟩
end Lw

set_option maxHeartbeats 4000000
/-! AwV: an item of a list as a target; a refusal's two fields told, its class looked at. -/
namespace Aw
open PySem PySem.Spec PyProof.Rows L2 Mw
section
variable {Z : Zx}
def agSub (fo fi : AE) : AG := fun w e σ N => fo e σ (fun o σ1 => fi e σ1 (fun i σ2 => ∃ n ys k j, o = .ref n ∧ i = .d (.int k) ∧ σ2[n]? = some (.lst ys) ∧ ixN ys.length k = some j ∧ N e (σ2.set n (.lst (ys.set j w)))) (fun _ _ => False)) (fun _ _ => False)
instance sim_gSub {to ti : TE} {fo fi : AE} [io : ∀ F : XK, SimE Z (fun _ => F) to fo] [ii : ∀ F : XK, SimE Z (fun _ => F) ti fi] : SimG Z (gSub to ti rSetL) (agSub fo fi) := ⟨fun {ρ σ H s e v w N M} r er vw h k => by
  refine (io (fun _ _ _ => False)).sim r er h (fun ρ1 σ1 H1 x a g1 r1 va q => ?_) (fun _ _ _ _ _ _ _ _ _ q => q.elim)
  refine (ii (fun _ _ _ => False)).sim r1 (g1.er r er) q (fun ρ2 σ2 H2 y b g2 r2 vb q => ?_) (fun _ _ _ _ _ _ _ _ _ q => q.elim)
  obtain ⟨n, ys, m, j, rfl, rfl, hc, hj, q⟩ := q
  have g := g1.trans g2
  have va2 := g2.wr r1 va
  have vw2 := g.wr r vw
  obtain ⟨ad, ha, rfl⟩ := va2
  have eb := vb.int
  subst eb
  obtain ⟨zs, e1, e2⟩ := r2.cell n ad _ ha hc
  have gp : Go Z.T ρ2 H2 ρ2 (upd H2 ad (.lst (zs.set j v))) := Go.put (List.mem_of_getElem? ha) e1
  refine ⟨ad, zs, m, j, rfl, rfl, e1, by rw [Paired.len e2]; exact hj, ?_⟩
  refine k ρ2 _ _ _ _ (g.trans gp) (r2.put (c := .lst (ys.set j w)) ha ⟨_, upd_same, gp.wrs r2 (Paired.set vw2 j e2)⟩) ?_ q
  exact (g.trans gp).er r er⟩
theorem r_gSub {fo fi : AE} {w : W} {e : Ev} {σ : Sto} {N : Ev → Sto → Prop} (h : fo e σ (fun o σ1 => fi e σ1 (fun i σ2 => ∃ n ys k j, o = .ref n ∧ i = .d (.int k) ∧ σ2[n]? = some (.lst ys) ∧ ixN ys.length k = some j ∧ N e (σ2.set n (.lst (ys.set j w)))) (fun _ _ => False)) (fun _ _ => False)) : agSub fo fi w e σ N := h
end
/-! ### a refusal looked at by its class, its two fields told -/
section
variable {Z : Zx} {C CP : Addr} {f g nm : Str} {i j io n : Nat}
theorem sui {X : Cx} {a CN : Addr} {oe : Obj} {cls : Value} {d : Option Addr} {pn : List (Addr × Obj)} {ss : List Stmt} {tr : Addr → TS} {ts : TS} (hz : Zc cls d oe) (raw : ∀ dd, Zc (.ref CN) (some dd) oe → PSs (X.suite a ((a, oe) :: pn)) ss (tr dd)) (w : ∀ D σ H, ts D σ H → ∃ dd, cls = .ref CN ∧ d = some dd ∧ tr dd D σ H) : PSs (X.suite a ((a, oe) :: pn)) ss ts := ⟨fun pins s σ H D I h => by
  obtain ⟨dd, rfl, rfl, h⟩ := w D σ H h
  exact (raw dd hz).run pins s σ H D I h⟩
/-- the names of the other classes are laid, then the pair of fields, then what is told -/
def tTo2 (C : Addr) (cl : List Addr) (f g m : Str) (i j io n : Nat) (a : Addr) (cls : Value) (d : Option Addr) : TS := fun D σ H => ∃ dd y z, cls = .ref C ∧ d = some dd ∧ H dd = some (.xd [(g, z), (f, y)]) ∧ σ[i]? = some (some (.ref a)) ∧ σ.length = n ∧
  ∀ p1, H p1 = none → ∀ p2, (upd H p1 (.tup (cl.map V.ref))) p2 = none → ∀ p, (upd (upd H p1 (.tup (cl.map V.ref))) p2 (.tup [y, z])) p = none →
    D.nx ((σ.set io (some (.bl false))).set j (some (.ref p))) (upd (upd (upd H p1 (.tup (cl.map V.ref))) p2 (.tup [y, z])) p (.tup [.str m, .ref p2]))
def hTo2 (nm m : Str) (j : Nat) : Xn → AS := fun x k e σ => x.cls = nm ∧ ∃ (da : PyData) (w : Str), x.fs = [.d da, .d (.str w)] ∧ k.nx (e.set j (some (.d (.tuple [.str m, .tuple [.str w, da]])))) σ
theorem rep_set {n i : Nat} : (List.replicate n (none : Option W)).set i none = List.replicate n none := by
  refine List.ext_getElem? fun l => ?_
  by_cases h : l = i
  · subst h
    by_cases hn : l < n
    · rw [List.getElem?_set_self (by simpa using hn), List.getElem?_replicate, if_pos hn]
    · rw [List.getElem?_eq_none (by simp; omega), List.getElem?_eq_none (by simp; omega)]
  · rw [List.getElem?_set_ne (Ne.symm h)]
theorem sim_hTo2 {m : Str} {cl : List Addr} (hij : i ≠ j) (hin : i < n) [X : XrIn2 Z C f g nm] (xm : PySem.W.exmOne Z.K (.ref C) (.ref CP) = some true) : SimH Z n i (.ref CP) (tTo2 C cl f g m i j io n) (hTo2 nm m j) := ⟨fun {ρ σ H cls od x k D s} r xr hl q kn => by
  obtain ⟨e0, da, w, ef, q⟩ := q
  obtain ⟨d, y, z, w', v, rfl, rfl, hd, ef2, wy, wz⟩ := X.inv xr e0
  rw [ef] at ef2
  cases ef2
  refine ⟨xm, fun a na => ⟨d, y, z, rfl, rfl, hd, List.getElem?_set_self (by omega), by rw [List.length_set]; exact hl, fun p1 n1 p2 n2 p np => ?_⟩⟩
  have g1 : Go Z.T ρ H ρ (upd H p1 (.tup (cl.map V.ref))) := Go.lay n1
  have r1 := r.lay (o := .tup (cl.map V.ref)) n1
  have g2 : Go Z.T ρ _ ρ (upd (upd H p1 (.tup (cl.map V.ref))) p2 (.tup [y, z])) := Go.lay n2
  have r2 := r1.lay (o := .tup [y, z]) n2
  have g3 : Go Z.T ρ _ ρ (upd (upd (upd H p1 (.tup (cl.map V.ref))) p2 (.tup [y, z])) p (.tup [.str m, .ref p2])) := Go.lay np
  have r3 := r2.lay (o := .tup [.str m, .ref p2]) np
  have wy2 := (g1.trans g2).rp r wy
  have wz2 := (g1.trans g2).rp r wz
  have ip := Rp.tup (.of upd_same rfl) (.cons wy2 (.cons wz2 .nil))
  refine kn ρ σ _ _ _ ((g1.trans g2).trans g3) r3 ?_ q
  generalize hH : upd (upd (upd H p1 (.tup (cl.map V.ref))) p2 (.tup [y, z])) p (.tup [.str m, .ref p2]) = H3 at *
  have op : Rp Z.K ρ H3 (.ref p) (.tuple [.str m, .tuple [.str w, da]]) := Rp.tup (.of (by rw [← hH]; exact upd_same) rfl) (.cons (.str _) (.cons (g3.rp r2 ip) .nil))
  have e1 := er_blank (K := Z.K) (ρ := ρ) (H := H3) s
  rw [hl] at e1
  have e2 : ER Z.K ρ H3 ((((s.set i (some (.ref a))).set io (some (.bl false))).set j (some (.ref p))).set i none) (((((List.replicate n none).set i none).set io none).set j (some (.d (.tuple [.str m, .tuple [.str w, da]])))).set i none) := by
    refine Paired.set (R := OR Z.K ρ H3) (x := none) (u := none) True.intro i (Paired.set (R := OR Z.K ρ H3) (x := some (.ref p)) (u := some (.d (.tuple [.str m, .tuple [.str w, da]]))) op j ?_)
    exact Paired.set (R := OR Z.K ρ H3) (x := some (.bl false)) (u := none) True.intro io (Paired.set (R := OR Z.K ρ H3) (x := some (.ref a)) (u := none) True.intro i e1)
  have e3 : ∀ x : Option W, ((((List.replicate n (none : Option W)).set i none).set io none).set j x).set i none = (List.replicate n none).set j x := fun x => by rw [rep_set, rep_set, List.set_comm _ _ (Ne.symm hij), rep_set]
  rw [e3] at e2
  exact e2⟩
end
/-! ### list + list as a cell -/
section
variable {Z : Zx}
def rCatC : R2 := rCatL
theorem op_catC {X : Cx} : OpR X (binaryOp .Add) rCatC := op_catL
def catC : W → W → Sto → QK → Prop := fun a b σ Q => ∃ ds es, dat σ a = some (.list ds) ∧ dat σ b = some (.list es) ∧ ds.length + es.length ≤ sizeLine ∧ Q (.ref σ.length) (σ ++ [.lst ((ds ++ es).map .d)])
instance sim_catC : SimR2 Z rCatC catC := ⟨fun rl v w q k => by
  obtain ⟨ds, es, h1, h2, hl, q⟩ := q
  obtain ⟨a1, xs, rfl, e1, p1⟩ := dat_tp rl v h1
  obtain ⟨a2, ys, rfl, e2, p2⟩ := dat_tp rl w h2
  exact ⟨_, _, _, _, rfl, rfl, e1, e2, by rw [rpAll_len p1, rpAll_len p2]; exact hl, fun p n => k.layC rl n (rpAll_wrs (rpAll_app p1 p2)) q⟩⟩
end
/-! ### a list times a number as a cell -/
section
variable {Z : Zx}
def rRepC : R2 := rRep
theorem op_repC {X : Cx} : OpR X (binaryOp .Mult) rRepC := op_rep
def repCW : W → W → Sto → QK → Prop := fun a b σ Q => ∃ i ws ds n, a = .ref i ∧ b = .d (.int n) ∧ σ[i]? = some (.lst ws) ∧ pures ws = some ds ∧ 0 ≤ n ∧ n ≤ 1000 ∧ ws.length * n.toNat ≤ sizeLine ∧ Q (.ref σ.length) (σ ++ [.lst ((List.replicate n.toNat ds).flatten.map .d)])
instance sim_repC : SimR2 Z rRepC repCW := ⟨fun {ρ σ H x y a b Qa Q} rl va vb q kq => by
  obtain ⟨i, ws, ds, n, rfl, rfl, hc, hp, h0, h1, hl, q⟩ := q
  obtain ⟨ad, ha, rfl⟩ := va
  obtain ⟨zs, e1, e2⟩ := rl.cell i ad _ ha hc
  have e : ∀ {v}, WR Z.K ρ H v (.d (.int n)) → v = .int n := fun h => h.int
  rw [e vb]
  exact ⟨ad, n, zs, rfl, rfl, e1, by omega, by omega, by rw [Paired.len e2]; exact hl, fun p np => kq.layC rl np (rpAll_wrs (rpAll_rep (pures_rp e2 hp) n.toNat)) q⟩⟩
end
/-! ### repr of a tuple with cells in it -/
section
variable {Z : Zx} {E : L2.St → XK} {ta : TA} {fr : AA}
def dats (σ : Sto) : List W → Option (List PyData)
  | [] => some []
  | w :: ws => match dat σ w, dats σ ws with
    | some d, some ds => some (d :: ds)
    | _, _ => none
theorem dats_dp {K : PySem.W.Frag} {T : Fx} {ρ : List Addr} {σ : Sto} {H : Hp} (r : Rel K T ρ σ H) : ∀ {vs : List V} {ws : List W} {ds : List PyData}, WRs K ρ H vs ws → dats σ ws = some ds → PyData.canLayAll0 ds = true → DpAll K H vs ds ∧ vs.length = ds.length
  | _, _, _, .nil, h, _ => by cases h; exact ⟨.nil, rfl⟩
  | _, w :: ws, ds, .cons h1 h2, h, e => by
    unfold dats at h
    cases hd : dat σ w with
    | none => rw [hd] at h; cases h
    | some d =>
      cases hs : dats σ ws with
      | none => rw [hd, hs] at h; cases h
      | some es =>
        rw [hd, hs] at h
        cases h
        have e' : d.canLay0 = true ∧ PyData.canLayAll0 es = true := by simpa [PyData.canLayAll0] using e
        obtain ⟨a, b⟩ := dats_dp r h2 hs e'.2
        exact ⟨.cons ((dat_tp r h1 hd).dp e'.1) a, by rw [List.length_cons, List.length_cons, b]⟩
def tReprT (K : PySem.W.Frag) (ta : TA) : TE := tCB (rReprU K) (tCons (tTupF ta) tNil)
theorem pe_reT {X : Cx} {e : Expr} {K : PySem.W.Frag} (h : PE X e (tCB (rReprU K) (tCons (tTupF ta) tNil))) : PE X e (tReprT K ta) := h
def aReprT (fr : AA) : AE := fun e σ Q X => fr e σ (fun ws σ1 => ∃ ds, dats σ1 ws = some ds ∧ ds.length ≤ sizeLine ∧ Shw (.tuple ds) ∧ Q (.d (.str (PyData.tuple ds).shown)) σ1) X
instance sim_reprT [ia : SimA Z E ta fr] : SimE Z E (tReprT Z.K ta) (aReprT fr) := ⟨fun r er h kq kx => by
  refine ia.sim r er h (fun ρ' σ' H' vs ws g r' vw q => ?_) kx
  obtain ⟨ds, hd, hl, sh, q⟩ := q
  have hc : PyData.canLayAll0 ds = true := by have := sh.l; simpa [PyData.canLay0] using this
  have hlen := (dats_dp r' vw hd hc).2
  refine ⟨by rw [hlen]; exact hl, .inl fun p np => ?_⟩
  have gp : Go Z.T ρ' H' ρ' (upd H' p (.tup vs)) := Go.lay np
  have r2 := r'.lay (o := .tup vs) np
  exact ⟨_, .tuple ds, rfl, .tup (.inl (.inl upd_same)) (dats_dp r2 (gp.wrs r' vw) hd hc).1, sh.s, sh.l, sh.p, sh.z, kq.d (g.trans gp) r2 (Rp.str _) q⟩⟩
theorem r_reprT {e : Ev} {σ : Sto} {Q : QK} {X : XQ} (h : fr e σ (fun ws σ1 => ∃ ds, dats σ1 ws = some ds ∧ ds.length ≤ sizeLine ∧ Shw (.tuple ds) ∧ Q (.d (.str (PyData.tuple ds).shown)) σ1) X) : aReprT fr e σ Q X := h
end
end Aw

set_option maxHeartbeats 8000000
set_option synthInstance.maxHeartbeats 2000000
set_option synthInstance.maxSize 100000
/-! L12P: k12: its own defs as abstract programs (generated). -/
namespace Lw
open PySem PySem.Spec PyProof.Rows L2 Mw Aw
noncomputable abbrev p12Num : AS := (aRet (aAndV (aIsi "int" (aVar 0)) (aNotV (aIsi "bool" (aVar 0)))))
noncomputable abbrev p12Plc (fNum : AF) : AS := (aRet (aAndV (aCall fNum 1 (aCons (aVar 1) aNil)) (aChain (ra2 (ordF fLe)) (ra2 (ordF fLt)) (aD (.int 0)) (aVar 1) (aVar 0))))
noncomputable abbrev p12Eby : AS := (aSeq (aAsg (aDcT (aIt (aVar 0)) (agN 3) aYes (aVar 3) (aD (.bool true)) [3]) (agN 2))
  (aSeq (aFor (aIt (aVar 0)) (agN 3)
    (aFor (aIt (aOp ixW (aVar 1) (aVar 3))) (agN 4)
    (aDPut (aVar 2) (aVar 4) (aD (.bool true)))))
  (aRet (aVar 2))))
noncomputable abbrev p12Kno (fEby : AF) : AS := (aSeq (aAsg (aDNew true) (agN 1))
  (aSeq (aFor (aIt (aVar 0)) (agN 2)
    (aDPut (aVar 1) (aOp ixW (aVar 2) (aD (.int 0))) (aCall fEby 2 (aCons (aOp ixW (aVar 2) (aD (.int 2))) (aCons (aVar 1) aNil)))))
  (aRet (aVar 1))))
noncomputable abbrev p12Exd : AS := (aRet (aOp (ra2 addD) (aOp (ra2 addD) (aSl (aVar 0) aNoP (aPart (aVar 1))) (aTup (aCons (aOp ixW (aVar 0) (aOp (ra2 addD) (aVar 1) (aD (.int 1)))) (aCons (aOp ixW (aVar 0) (aVar 1)) aNil)))) (aSl (aVar 0) (aPart (aOp (ra2 addD) (aVar 1) (aD (.int 2)))) aNoP)))
noncomputable abbrev p12Lex (fExd fKno fPlc : AF) : AS := (aSeq (aIfS (aNot (aTest (aIsi "tuple" (aVar 3))))
    (aRaise2 "NoPaper" (aCons (aD (.str "shape")) (aCons (aUn (ra1 negD) (aD (.int 1))) aNil)))
    aNext)
  (aSeq (aFor (aEnum (aCons (aVar 3) aNil)) (agT 2 (agCons (agN 4) (agCons (agN 5) agNil)))
    (aIfS (aNot (aTest (aCall fPlc 2 (aCons (aOp (ra2 subD) (aCB lenW (aCons (aVar 1) aNil)) (aD (.int 1))) (aCons (aVar 5) aNil)))))
    (aRaise2 "NoPaper" (aCons (aD (.str "place")) (aCons (aVar 4) aNil)))
    aNext))
  (aSeq (aAsg (aCall fKno 1 (aCons (aVar 0) aNil)) (agN 6))
  (aSeq (aAsg (aVar 1) (agN 7))
  (aSeq (aFor (aEnum (aCons (aVar 3) aNil)) (agT 2 (agCons (agN 4) (agCons (agN 5) agNil)))
    (aSeq (aIfS (aTest (aOp (inW false) (aOp ixW (aVar 7) (aVar 5)) (aOp ixW (aVar 6) (aOp ixW (aVar 7) (aOp (ra2 addD) (aVar 5) (aD (.int 1)))))))
    (aRaise2 "NoPaper" (aCons (aD (.str "known")) (aCons (aVar 4) aNil)))
    aNext)
  (aAsg (aCall fExd 2 (aCons (aVar 7) (aCons (aVar 5) aNil))) (agN 7))))
  (aSeq (aIfS (aTest (aOp (ra2 (eqF true)) (aVar 7) (aVar 2)))
    (aRaise2 "NoPaper" (aCons (aD (.str "end")) (aCons (aUn (ra1 negD) (aD (.int 1))) aNil)))
    aNext)
  (aRet (aCB lenW (aCons (aVar 3) aNil)))))))))
noncomputable abbrev p12Pap (fDraw : AF) : AS := (aSeq (aAsg (aCB listCW (aCons (aVar 2) aNil)) (agN 4))
  (aSeq (aAsg (aLstC aNil) (agN 5))
  (aSeq (aWhile (aTest (aOp (ra2 (eqF true)) (aVar 4) (aCB listW (aCons (aVar 3) aNil))))
    (aSeq (aAsg (aLc (aR1 (aCons (aOp (ra2 subD) (aCB lenW (aCons (aVar 4) aNil)) (aD (.int 1))) aNil)) (agN 7) (aTest (aOp (ra2 (ordF fGt)) (aBMT idxW (aVar 3) (aCons (aOp ixW (aVar 4) (aVar 7)) aNil)) (aBMT idxW (aVar 3) (aCons (aOp ixW (aVar 4) (aOp (ra2 addD) (aVar 7) (aD (.int 1)))) aNil)))) (aVar 7) [7]) (agN 6))
  (aSeq (aAsg (aOp ixW (aVar 6) (aCall fDraw 2 (aCons (aVar 0) (aCons (aCB lenW (aCons (aVar 6) aNil)) aNil)))) (agN 8))
  (aSeq (aAsg (aD (.int 1)) (agN 9))
  (aSeq (aIfS (aTest (aOp (ra2 (eqF false)) (aCall fDraw 2 (aCons (aVar 0) (aCons (aD (.int 8)) aNil))) (aD (.int 0))))
    (aAsg (aD (.int 3)) (agN 9))
    aNext)
  (aSeq (aDrop (aBM "list" extendW (aVar 5) (aCons (aOp repCW (aLstC (aCons (aVar 8) aNil)) (aVar 9)) aNil)))
  (aAsg (aTup (aCons (aOp ixW (aVar 4) (aOp (ra2 addD) (aVar 8) (aD (.int 1)))) (aCons (aOp ixW (aVar 4) (aVar 8)) aNil))) (agT 2 (agCons (agSub (aVar 4) (aVar 8)) (agCons (agSub (aVar 4) (aOp (ra2 addD) (aVar 8) (aD (.int 1)))) agNil))))))))))
  (aRet (aCB tupleW (aCons (aVar 5) aNil))))))
noncomputable abbrev p12Whl : AS := (aRet (aAndV (aIsi "int" (aVar 0)) (aNotV (aIsi "bool" (aVar 0)))))
noncomputable abbrev p12Due (fWhl : AF) : AS := (aSeq (aIfS (aNot (aTest (aIsi "tuple" (aVar 3))))
    (aRet (aTup (aCons (aD (.str "no")) (aCons (aTup (aCons (aD (.str "shape")) (aCons (aUn (ra1 negD) (aD (.int 1))) aNil))) aNil))))
    aNext)
  (aSeq (aAsg (aLc (aR1 (aCons (aCB lenW (aCons (aVar 3) aNil)) aNil)) (agN 5) (aOr (aNot (aTest (aCall fWhl 1 (aCons (aOp ixW (aVar 3) (aVar 5)) aNil)))) (aNot (aTest (aChain (ra2 (ordF fLe)) (ra2 (ordF fLt)) (aD (.int 0)) (aOp ixW (aVar 3) (aVar 5)) (aOp (ra2 subD) (aCB lenW (aCons (aVar 1) aNil)) (aD (.int 1))))))) (aVar 5) [5]) (agN 4))
  (aSeq (aIfS (aTest (aOp (ra2 (eqF true)) (aVar 4) (aLst aNil)))
    (aRet (aTup (aCons (aD (.str "no")) (aCons (aTup (aCons (aD (.str "place")) (aCons (aOp ixW (aVar 4) (aD (.int 0))) aNil))) aNil))))
    aNext)
  (aSeq (aAsg (aCB listCW (aCons (aVar 1) aNil)) (agN 6))
  (aSeq (aFor (aR1 (aCons (aCB lenW (aCons (aVar 3) aNil)) aNil)) (agN 5)
    (aSeq (aPar 7 8 (aCons (aOp ixW (aVar 6) (aOp ixW (aVar 3) (aVar 5))) (aCons (aOp ixW (aVar 6) (aOp (ra2 addD) (aOp ixW (aVar 3) (aVar 5)) (aD (.int 1)))) aNil)))
  (aSeq (aIfS (aTest (aOp (inW false) (aVar 7) (aOp ixW (aOp ixW (aVar 0) (aD (.str "knows"))) (aVar 8))))
    (aRet (aTup (aCons (aD (.str "no")) (aCons (aTup (aCons (aD (.str "known")) (aCons (aVar 5) aNil))) aNil))))
    aNext)
  (aSeq (aAsg (aVar 8) (agSub (aVar 6) (aOp ixW (aVar 3) (aVar 5))))
  (aAsg (aVar 7) (agSub (aVar 6) (aOp (ra2 addD) (aOp ixW (aVar 3) (aVar 5)) (aD (.int 1)))))))))
  (aRet (aIf (aTest (aOp (ra2 (eqF false)) (aCB tupleW (aCons (aVar 6) aNil)) (aVar 2))) (aTup (aCons (aD (.str "told")) (aCons (aCB lenW (aCons (aVar 3) aNil)) aNil))) (aTup (aCons (aD (.str "no")) (aCons (aTup (aCons (aD (.str "end")) (aCons (aUn (ra1 negD) (aD (.int 1))) aNil))) aNil))))))))))
noncomputable abbrev p12Told (fLex : AF) : AS := (aSeq (aAsg (aTup (aCons (aD (.str "other")) (aCons (aD .none) aNil))) (agN 4))
  (aSeq (aTryG 7 (aAsg (aTup (aCons (aD (.str "told")) (aCons (aCall fLex 4 (aCons (aVar 0) (aCons (aVar 1) (aCons (aVar 2) (aCons (aVar 3) aNil))))) aNil))) (agN 4)) (hTo2 "NoPaper" "no" 4))
  (aRet (aVar 4))))
noncomputable abbrev p12Bent (fDraw : AF) : AS := (aSeq (aAsg (aCall fDraw 2 (aCons (aVar 0) (aCons (aD (.int 9)) aNil))) (agN 3))
  (aSeq (aAsg (aCall fDraw 2 (aCons (aVar 0) (aCons (aOp (ra2 addD) (aCB lenW (aCons (aVar 1) aNil)) (aD (.int 1))) aNil))) (agN 4))
  (aSeq (aIfS (aTest (aOp (ra2 (eqF false)) (aVar 3) (aD (.int 0))))
    (aRet (aOp (ra2 addD) (aSl (aVar 1) aNoP (aPart (aVar 4))) (aSl (aVar 1) (aPart (aOp (ra2 addD) (aVar 4) (aD (.int 1)))) aNoP)))
    aNext)
  (aSeq (aIfS (aTest (aOp (ra2 (eqF false)) (aVar 3) (aD (.int 1))))
    (aRet (aOp (ra2 addD) (aOp (ra2 addD) (aSl (aVar 1) aNoP (aPart (aVar 4))) (aSl (aVar 1) (aPart (aVar 4)) (aPart (aOp (ra2 addD) (aVar 4) (aD (.int 1)))))) (aSl (aVar 1) (aPart (aVar 4)) aNoP)))
    aNext)
  (aSeq (aIfS (aTest (aOp (ra2 (eqF false)) (aVar 3) (aD (.int 2))))
    (aRet (aRevT (aVar 1)))
    aNext)
  (aSeq (aIfS (aTest (aOp (ra2 (eqF false)) (aVar 3) (aD (.int 3))))
    (aRet (aOp (ra2 addD) (aOp (ra2 addD) (aSl (aVar 1) aNoP (aPart (aVar 4))) (aTup (aCons (aOp (ra2 subD) (aCall fDraw 2 (aCons (aVar 0) (aCons (aOp (ra2 addD) (aVar 2) (aD (.int 2))) aNil))) (aD (.int 1))) aNil))) (aSl (aVar 1) (aPart (aVar 4)) aNoP)))
    aNext)
  (aSeq (aIfS (aTest (aOp (ra2 (eqF false)) (aVar 3) (aD (.int 4))))
    (aRet (aCB listW (aCons (aVar 1) aNil)))
    aNext)
  (aSeq (aIfS (aTest (aOp (ra2 (eqF false)) (aVar 3) (aD (.int 5))))
    (aRet (aOp (ra2 addD) (aOp (ra2 addD) (aSl (aVar 1) aNoP (aPart (aVar 4))) (aTup (aCons (aOp (ra2 subD) (aCall fDraw 2 (aCons (aVar 0) (aCons (aOp (ra2 addD) (aVar 2) (aD (.int 2))) aNil))) (aD (.int 1))) aNil))) (aSl (aVar 1) (aPart (aOp (ra2 addD) (aVar 4) (aD (.int 1)))) aNoP)))
    aNext)
  (aSeq (aAsg (aOp ixW (aLst (aCons (aD .none) (aCons (aD (.bool true)) (aCons (aUn (ra1 negD) (aD (.int 1))) (aCons (aOp (ra2 subD) (aVar 2) (aD (.int 1))) (aCons (aVar 2) (aCons (aD (.str "0")) (aCons (aTup aNil) (aCons (aLst (aCons (aD (.int 0)) aNil)) (aCons (aOp (ra2 mulD) (aOp (ra2 powD) (aD (.int 10)) (aD (.int 60))) (aOp (ra2 powD) (aD (.int 10)) (aD (.int 60)))) aNil)))))))))) (aCall fDraw 2 (aCons (aVar 0) (aCons (aD (.int 9)) aNil)))) (agN 5))
  (aRet (aOp (ra2 addD) (aOp (ra2 addD) (aSl (aVar 1) aNoP (aPart (aVar 4))) (aTup (aCons (aVar 5) aNil))) (aSl (aVar 1) (aPart (aOp (ra2 addD) (aVar 4) (aCB intW (aCons (aOp (ra2 (ordF fLt)) (aVar 3) (aD (.int 8))) aNil)))) aNoP))))))))))))
noncomputable abbrev p12Law (fTold fDue fBent fPap fRoad fLedger fWorld fDraw fWords fFeed : AF) : AS := (aSeq (aAsg (aCall fFeed 1 (aCons (aVar 0) aNil)) (agN 1))
  (aSeq (aAsg (aCall fWords 2 (aCons (aVar 1) (aCons (aOp (ra2 addD) (aD (.int 1)) (aCall fDraw 2 (aCons (aVar 1) (aCons (aD (.int 6)) aNil)))) aNil))) (agN 2))
  (aSeq (aAsg (aCall fWorld 3 (aCons (aVar 1) (aCons (aVar 2) (aCons (aOp ixW (aLst (aCons (aCall fDraw 2 (aCons (aVar 1) (aCons (aD (.int 6)) aNil))) (aCons (aCall fDraw 2 (aCons (aVar 1) (aCons (aD (.int 17)) aNil))) aNil))) (aCall fDraw 2 (aCons (aVar 1) (aCons (aD (.int 2)) aNil)))) aNil)))) (agN 3))
  (aSeq (aAsg (aCB srtW (aCons (aOp ixW (aVar 3) (aD (.str "changes"))) aNil)) (agN 4))
  (aSeq (aAsg (aCall fLedger 2 (aCons (aVar 3) (aCons (aVar 4) aNil))) (agN 5))
  (aSeq (aPar 6 7 (aCons (aCall fRoad 3 (aCons (aVar 1) (aCons (aVar 3) (aCons (aVar 4) aNil)))) (aCons (aCall fRoad 3 (aCons (aVar 1) (aCons (aVar 3) (aCons (aVar 4) aNil)))) aNil)))
  (aSeq (aAsg (aCall fPap 4 (aCons (aVar 1) (aCons (aVar 3) (aCons (aVar 6) (aCons (aVar 7) aNil))))) (agN 8))
  (aSeq (aAsg (aLstC (aCons (aVar 8) (aCons (aTup aNil) (aCons (aD .none) (aCons (aD (.int 0)) (aCons (aLst aNil) (aCons (aD (.bool true)) (aCons (aD (.str "places")) (aCons (aTup (aCons (aD (.int 0)) aNil)) (aCons (aTup (aCons (aD .none) aNil)) (aCons (aTup (aCons (aTup aNil) aNil)) aNil))))))))))) (agN 9))
  (aSeq (aAsg (aOp catC (aVar 9) (aLc (aR1 (aCons (aD (.int 8)) aNil)) (agN 10) aYes (aCall fBent 3 (aCons (aVar 1) (aCons (aVar 8) (aCons (aCB lenW (aCons (aVar 4) aNil)) aNil)))) [10])) (agN 9))
  (aSeq (aDrop (aBM "list" appendW (aVar 9) (aCons (aCall fBent 3 (aCons (aVar 1) (aCons (aCB tupleW (aCons (aCall fBent 3 (aCons (aVar 1) (aCons (aVar 8) (aCons (aCB lenW (aCons (aVar 4) aNil)) aNil)))) aNil)) (aCons (aCB lenW (aCons (aVar 4) aNil)) aNil)))) aNil)))
  (aSeq (aAsg (aReprT (aCons (aVar 5) (aCons (aVar 6) (aCons (aVar 7) (aCons (aVar 9) aNil))))) (agN 11))
  (aSeq (aFor (aIt (aTup (aCons (aTup (aCons (aVar 6) (aCons (aVar 7) aNil))) (aCons (aTup (aCons (aVar 7) (aCons (aVar 6) aNil))) (aCons (aTup (aCons (aVar 6) (aCons (aVar 6) aNil))) aNil))))) (agT 2 (agCons (agN 12) (agCons (agN 13) agNil)))
    (aFor (aIt (aOp (ra2 addD) (aVar 9) (aSl (aVar 9) aNoP (aPart (aD (.int 1)))))) (agN 14)
    (aIfS (aTest (aOp (ra2 (eqF true)) (aCB reprW (aCons (aCall fTold 4 (aCons (aVar 5) (aCons (aVar 12) (aCons (aVar 13) (aCons (aVar 14) aNil))))) aNil)) (aCB reprW (aCons (aCall fDue 4 (aCons (aVar 3) (aCons (aVar 12) (aCons (aVar 13) (aCons (aVar 14) aNil))))) aNil))))
    (aRet (aD (.bool false)))
    aNext)))
  (aRet (aOp (ra2 (eqF false)) (aReprT (aCons (aVar 5) (aCons (aVar 6) (aCons (aVar 7) (aCons (aVar 9) aNil))))) (aVar 11)))))))))))))))
end Lw

set_option maxHeartbeats 4000000
/-! L12A: k12: bent papers; a paper by exchanges in a drawn order. -/
namespace Lw
open PySem PySem.Spec PyProof.Rows L2 Mw Aw
structure Ix (x : PyData) : Prop where
  f : fine x = true
  w : wt x ≤ 1930
  p : x.depth ≤ 1
def PL (ds : List PyData) (n : Nat) : Prop := (∀ x ∈ ds, Ix x) ∧ ds.length ≤ n
theorem PL.all : ∀ {ds : List PyData}, (∀ x ∈ ds, Ix x) → fineAll ds = true ∧ wtAll ds ≤ 1932 * ds.length ∧ PyData.depthAll ds ≤ 1
  | [], _ => ⟨rfl, by simp [wtAll], by simp [PyData.depthAll]⟩
  | x :: xs, h => by
    obtain ⟨a, b, c⟩ := PL.all (ds := xs) fun y hy => h y (List.mem_cons_of_mem _ hy)
    have hx := h x (by simp)
    have h1 := hx.w
    have h2 := hx.p
    refine ⟨by rw [Mw.fineAll, hx.f, a]; rfl, ?_, ?_⟩
    · rw [wtAll, List.length_cons]; omega
    · rw [PyData.depthAll]; omega
theorem PL.mono {ds : List PyData} {n m : Nat} (a : PL ds n) (h : n ≤ m) : PL ds m := ⟨a.1, Nat.le_trans a.2 h⟩
theorem PL.one {x : PyData} (h : Ix x) : PL [x] 1 := ⟨fun y hy => by rw [List.mem_singleton.mp hy]; exact h, Nat.le_refl _⟩
theorem PL.app {xs ys : List PyData} {n m : Nat} (a : PL xs n) (b : PL ys m) : PL (xs ++ ys) (n + m) :=
  ⟨fun x hx => (List.mem_append.mp hx).elim (a.1 x) (b.1 x), by rw [List.length_append]; have := a.2; have := b.2; omega⟩
def f12Bent : AF := fun ws σ Q _ => ∃ F ds n m c, ws = [.ref F, .d (.tuple ds), .d (.int (m : Nat))] ∧ σ[F]? = some c ∧ IsFeed c ∧ PL ds n ∧ n ≤ 400 ∧ m ≤ 16 ∧ ∀ x es c', (x = PyData.tuple es ∨ x = PyData.list es) → PL es (n + 1) → IsFeed c' → Q (.d x) (σ.set F c')
instance : MoF f12Bent := ⟨fun k ⟨F, ds, n, m, c, h1, h2, h3, h4, h5, h6, q⟩ => ⟨F, ds, n, m, c, h1, h2, h3, h4, h5, h6, fun a b x d e f => k _ _ (q a b x d e f)⟩⟩
end Lw

set_option maxHeartbeats 4000000
/-! L12B: k12: a paper by exchanges in a drawn order. -/
namespace Lw
open PySem PySem.Spec PyProof.Rows L2 Mw Aw
def spF (row other : List Nm) (j : Nat) : Option PyData := match row[j]?, row[j + 1]? with
  | some b, some x => if other.idxOf x < other.idxOf b then some (.int ((0 : Int) + (j : Nat))) else none
  | _, _ => none
def f12Pap : AF := fun ws σ Q _ => ∃ F w zs cs one other c, ws = [.ref F, w, .d (.tuple (one.map nmD)), .d (.tuple (other.map nmD))] ∧ σ[F]? = some c ∧ IsFeed c ∧ Wld zs cs ∧ TwoR cs one other ∧ ∀ ps c', (∀ p ∈ ps, p ≤ 16) → ps.length ≤ 360 → IsFeed c' → Q (.d (.tuple (plD ps))) (σ.set F c')
instance : MoF f12Pap := ⟨fun k ⟨F, w, zs, cs, one, other, c, h1, h2, h3, h4, h5, q⟩ => ⟨F, w, zs, cs, one, other, c, h1, h2, h3, h4, h5, fun a b x y z => k _ _ (q a b x y z)⟩⟩
end Lw

set_option maxHeartbeats 4000000
/-! L12C: k12: what is due, by the law's own going; what is told. -/
namespace Lw
open PySem PySem.Spec PyProof.Rows L2 Mw Aw
def dueD : Except (Str × Int) Nat → PyData
  | .ok n => .tuple [.str "told", .int (n : Nat)]
  | .error (w, a) => .tuple [.str "no", .tuple [.str w, .int a]]
def f12Told : AF := fun ws σ Q _ => ∃ zs cs one other d, ws = [.d (ledD (ledP cs (names cs))), .d (.tuple (one.map nmD)), .d (.tuple (other.map nmD)), .d d] ∧ Wld zs cs ∧ Rdd cs one ∧ Rdd cs other ∧ Od d ∧ Q (.d (dueD (letsR (knOf cs) one other d))) σ
instance : MoF f12Told := ⟨fun k ⟨a, b, c, d, e, h1, h2, h3, h4, h5, q⟩ => ⟨a, b, c, d, e, h1, h2, h3, h4, h5, k _ _ q⟩⟩
def f12Due : AF := fun ws σ Q _ => ∃ n zs cs one other d, ws = [.ref n, .d (.tuple (one.map nmD)), .d (.tuple (other.map nmD)), .d d] ∧ WdA σ n cs ∧ Wld zs cs ∧ Rdd cs one ∧ Rdd cs other ∧ Od d ∧ (∀ ds, d = .tuple ds → ds.length ≤ 400) ∧ Q (.d (dueD (letsR (knOf cs) one other d))) σ
instance : MoF f12Due := ⟨fun k ⟨n, a, b, c, d, e, h1, h2, h3, h4, h5, h6, h7, q⟩ => ⟨n, a, b, c, d, e, h1, h2, h3, h4, h5, h6, h7, k _ _ q⟩⟩
end Lw

set_option maxHeartbeats 4000000
/-! L12D: k12: the law. -/
namespace Lw
open PySem PySem.Spec PyProof.Rows L2 Mw Aw
structure Th (d : PyData) : Prop where
  f : fine d = true
  w : wt d ≤ 700000
  p : d.depth ≤ 2
  l : ∀ ds, d = .tuple ds → ds.length ≤ 400
theorem Th.od {d : PyData} (h : Th d) : Od d := ⟨h.f, by have := h.w; omega, by have := h.p; omega⟩
theorem PL.th {xs : List PyData} {n : Nat} (a : PL xs n) (h : n ≤ 362) : Th (.tuple xs) := by
  obtain ⟨h1, h2, h3⟩ := PL.all a.1
  have h4 := a.2
  have h5 : 1932 * xs.length ≤ 1932 * 362 := Nat.mul_le_mul_left _ (by omega)
  refine ⟨by rw [fine]; exact h1, by rw [wt]; omega, by rw [PyData.depth]; omega, fun ds e => by cases e; omega⟩
theorem Ix.th {d : PyData} (h : Ix d) (n : ∀ ds, d ≠ .tuple ds) : Th d := ⟨h.f, by have := h.w; omega, by have := h.p; omega, fun ds e => absurd e (n ds)⟩
end Lw

set_option maxHeartbeats 4000000
/-! AwT: the greater of two. -/
namespace Aw
open PySem PySem.Spec PyProof.Rows L2 Mw
section
variable {Z : Zx} {X : Cx}
def rMax2 : List V → Hp → VK → Prop := fun xs H Q => ∃ i j, xs = [.int i, .int j] ∧ Q (.int (if j > i then j else i)) H
theorem call_max2A (hc : X.calm = true) : CallR X (.builtin "max") rMax2 := call_max2 hc
theorem boot_maxA : bootBuiltins "max" = some (.builtin "max") := by first | rfl | decide +kernel
def max2W : List W → Sto → QK → Prop := fun ws σ Q => ∃ i j : Int, ws = [.d (.int i), .d (.int j)] ∧ Q (.d (.int (if j > i then j else i))) σ
instance sim_max2 : SimC Z rMax2 max2W := ⟨fun {ρ σ H xs ws Qa Q} rl v q kq => by
  obtain ⟨i, j, rfl, q⟩ := q
  cases v with
  | cons v1 v2 =>
    cases v2 with
    | cons v2 v3 =>
      cases v3
      rw [WR.int v1, WR.int v2]
      exact ⟨i, j, rfl, kq.d .refl rl (Rp.int _) q⟩⟩
instance : MoC max2W := ⟨fun k ⟨i, j, e, q⟩ => ⟨i, j, e, k _ _ q⟩⟩
end
/-! ### a, b, .. = a list -/
section
variable {Z : Zx}
def agL (n : Nat) (at_ : List W → Ev → Sto → (Ev → Sto → Prop) → Prop) : AG := fun w e σ N => ∃ i ws, w = .ref i ∧ σ[i]? = some (.lst ws) ∧ ws.length = n ∧ at_ ws e σ N
instance sim_gL {n : Nat} {t : TGs} {at_ : List W → Ev → Sto → (Ev → Sto → Prop) → Prop} [i1 : SimGs Z t at_] : SimG Z (gLst Z.K n t) (agL n at_) := ⟨fun r er v h k => by
  obtain ⟨i, ws, rfl, hc, hl, q⟩ := h
  obtain ⟨ad, ha, rfl⟩ := v
  obtain ⟨zs, e1, e2⟩ := r.cell i ad _ ha hc
  exact ⟨ad, zs, rfl, .inl (.inl e1), by rw [Paired.len e2]; exact hl, i1.sim r er e2 q k⟩⟩
theorem pg_lstA {X : Cx} {K : PySem.W.Frag} {pos : Pos} {es : List Expr} {k : Nat} {t : TGs} {n : Nat} (hK : X.K = K) (hc : X.calm = true) (h : PGs X es t) (hn : (assignEach es X.env).length = n := by rfl) (hst : (assignEach es X.env).findIdx? (·.1) = none := by rfl) : PG X (.Tuple es k pos) (gLst K n t) := by
  subst hK
  exact pg_lst hc h hn hst
theorem r_agL4 {i j k l p : Nat} {e : Ev} {σ : Sto} {N : Ev → Sto → Prop} {w x y z : W} (hc : σ[p]? = some (.lst [w, x, y, z])) (h : N ((((e.set i (some w)).set j (some x)).set k (some y)).set l (some z)) σ) : agL 4 (agCons (agN i) (agCons (agN j) (agCons (agN k) (agCons (agN l) agNil)))) (.ref p) e σ N :=
  ⟨p, _, rfl, hc, rfl, _, _, rfl, _, _, rfl, _, _, rfl, _, _, rfl, rfl, h⟩
end
/-! ### a, b = b, a with cells -/
section
variable {Z : Zx} {E : L2.St → XK} {ta : TA} {fr : AA}
def tAsgT (K : PySem.W.Frag) (n : Nat) (ta : TA) (t : TGs) : TS := tAsg (tTupF ta) (gTup K n t)
theorem ps_asT {X : Cx} {s : Stmt} {K : PySem.W.Frag} {n : Nat} {t : TGs} (h : PS X s (tAsg (tTupF ta) (gTup K n t))) : PS X s (tAsgT K n ta t) := h
def aAsgT (n : Nat) (fr : AA) (at_ : List W → Ev → Sto → (Ev → Sto → Prop) → Prop) : AS := fun k e σ => fr e σ (fun ws σ1 => ws.length = n ∧ n ≤ sizeLine ∧ at_ ws e σ1 k.nx) (k.ex e)
instance sim_asgT {n : Nat} {t : TGs} {at_ : List W → Ev → Sto → (Ev → Sto → Prop) → Prop} [ia : SimA Z E ta fr] [ig : SimGs Z t at_] : SimS Z E (tAsgT Z.K n ta t) (aAsgT n fr at_) := ⟨fun {ρ σ H s e k D} r er h kn kr kx => by
  refine ia.sim r er h (fun ρ' σ' H' vs ws g r' vw q => ?_) (kx.at_ r er)
  obtain ⟨hl, hz, q⟩ := q
  have e1 := Paired.len vw
  refine ⟨by omega, .inl fun p np => ?_⟩
  have gp : Go Z.T ρ' H' ρ' (upd H' p (.tup vs)) := Go.lay np
  have r2 := r'.lay (o := .tup vs) np
  exact ⟨p, vs, rfl, .inl (.inl upd_same), by omega, ig.sim r2 ((g.trans gp).er r er) (gp.wrs r' vw) q (kn.go (g.trans gp))⟩⟩
end
end Aw

set_option maxHeartbeats 4000000
/-! MwSd: l.index(x) by data; sorted(l), l a list of texts; tuple(d.values()), list(d.values()). -/
namespace Mw
open PySem PySem.Spec PyProof.Rows L2 PySem.W
section
variable {X : Cx} {K : PySem.W.Frag}
def rIdxL (K : PySem.W.Frag) : V → List V → Hp → VK → Prop := fun x xs H Q => ∃ (a : Addr) (y : V) (d : PyData) (ds : List PyData) (j : Nat), x = V.ref a ∧ xs = [y] ∧ Dp K H (V.ref a) (.list ds) ∧ Dp K H y d ∧ SeqAt.shaped (.tuple ds) = true ∧ SeqAt.shaped d = true ∧ Fst ds d j ∧ Q (.int (j : Nat)) H
theorem mt_idxL (hK : X.K = K) (hu : X.A.units + 65 < cLine) : MtR X "list.index" (rIdxL K) := by
  subst hK
  intro pins s σ H x xs v us Q I rx rxs h
  obtain ⟨a, y, d, ds, j, rfl, rfl, hl, hy, sl, sd, ⟨⟨z, hz, hzj⟩, hno⟩, q⟩ := h
  cases rx
  obtain ⟨uy, rfl, ry⟩ := rxs.one
  obtain ⟨bs, r1⟩ := Dp.reads I d y uy hy ry
  have hxs : PyData.canLayAll0 ds = true := SeqAt.canLay_of_shaped sl
  have hroom : X.A.units + 1 + min (PyData.depthAll ds) d.depth < cLine := room_in_shaped sd hu
  cases hl with
  | lst hs ha =>
    obtain ⟨its, rv, pl, hlen⟩ := I.list hs
    obtain ⟨⟨cls, dd, dt, sls⟩, n, ho, hc, hdd, hdt⟩ := pl
    simp only at hc hdd hdt
    subst hc hdd hdt
    obtain ⟨as, h4⟩ := Dp.readsAll I ds _ its ha rv
    have hn : its.length = ds.length := SeqAt.ReadsAll.length ds its as h4
    have hmap : its.map (SeqAt.readOf s.heap) = ds := SeqAt.readsAll_map ds its as hxs h4
    have hjl : j < its.length := by have := (List.getElem?_eq_some_iff.mp hz).1; omega
    have hj : j < its.toArray.size := by simpa using hjl
    have hsm : (j : Int) < 2 ^ 63 - 1 := by
      have e1 := rv.length
      have e2 : sizeLine < 2 ^ 62 := by decide +kernel
      omega
    refine call_meets PySem.F.slot_list_index ⟨_, ho, rfl⟩ PySem.F.entry_list_index (PySem.F.args_list_index_2 _ _)
      (SeqAt.list_indexAt a its.toArray n none sls uy (fun u => PyData.eqv (SeqAt.readOf s.heap u) d) j hj hsm ?_ ?_) ⟨ho, SeqAt.items_eqAt (vs := its.toArray) (show ReadsAll s.heap its.toArray.toList ds as from h4) r1 hxs (SeqAt.canLay_of_shaped sd) hroom, ?_⟩
    · show PyData.eqv (SeqAt.readOf s.heap its.toArray[j]) d = true
      rw [at_read hmap j hj z hz]
      exact hzj
    · intro m hm hmj
      have hz' : ds[m]? = some ds[m] := List.getElem?_eq_getElem (by omega)
      show PyData.eqv (SeqAt.readOf s.heap its.toArray[m]) d = false
      rw [at_read hmap m hm _ hz']
      exact hno m _ hmj hz'
    · exact ⟨.int (j : Nat), H, I.tok _, ⟨_, rfl⟩, q⟩
/-! ### texts in their order -/
def srtS (ss : List Str) : List Str := ss.mergeSort (PySem.W.dataLe false PyData.str)
def rSortS (K : PySem.W.Frag) : List V → Hp → VK → Prop := fun xs H Q => ∃ (l : Addr) (ss : List Str), xs = [.ref l] ∧ SqL K H l (ss.map V.str) ∧
  ∀ p, H p = none → Q (.ref p) (upd H p (.lst ((srtS ss).map V.str)))
theorem each_strs : ∀ {ss : List Str} {us : List Value}, Vals (ss.map V.str) us → PySem.W.EachIs (fun v (x : Str) => RelV (.str x) v) us ss
  | [], _, .nil => .nil
  | x :: ss, _, .cons h t => .cons h (each_strs t)
theorem strs_each : ∀ {us : List Value} {ss : List Str}, PySem.W.EachIs (fun v (x : Str) => RelV (.str x) v) us ss → Vals (ss.map V.str) us
  | _, _, .nil => .nil
  | _, _, .cons h t => .cons h (strs_each t)
theorem call_sortS (hK : X.K = K) (hc : X.calm = true) (hu : X.A.units + 16 < cLine) : CallR X (.builtin "sorted") (rSortS K) := by
  subst hK
  intro pins s σ H xs us Q I r h
  obtain ⟨l, ss, rfl, hl, q⟩ := h
  obtain ⟨u, rfl, rx⟩ := r.one
  cases rx
  obtain ⟨its, rv, pl, hz⟩ := I.list hl
  have el := rv.length
  have hlen : its.length ≤ sizeLine := by omega
  refine PySem.Calls.call_function_entry kind_sorted plain_sorted entry_sorted (args_sorted1 _) ?_
  unfold Builtin.«sorted»
  refine wpAny_bind (m := checkCount "sorted" 1 1 _) (wpAny_pure ?_)
  refine wpAny_bind (collect_list (A := X.A.in1) (vs := its) pl.isList ?_ hlen)
  have kp : ∀ b ob, s.heap.get? b = some ob → ((s.heap.push (seqObj "list" #[] 0)).update s.heap.objs.size (Obj.mapSeq (· ++ its.toArray))).get? b = some ob := fun b ob e =>
    (Heap.get?_update_other _ _ (Ne.symm (Nat.ne_of_lt (Heap.lt_size e)))).trans (Heap.get?_push_of_some _ e)
  have hsz : s.heap.objs.size ≤ ((s.heap.push (seqObj "list" #[] 0)).update s.heap.objs.size (Obj.mapSeq (· ++ its.toArray))).objs.size := by
    exact Nat.le_of_lt (Heap.lt_size (Heap.get?_update_self (Obj.mapSeq (· ++ its.toArray)) (Heap.get?_push_size (o := seqObj "list" #[] 0) s.heap rfl) rfl))
  generalize ((s.heap.push (seqObj "list" #[] 0)).update s.heap.objs.size (Obj.mapSeq (· ++ its.toArray))) = h' at kp hsz ⊢
  have E0 : PySem.W.EachIs (fun v (x : Str) => RelV (.str x) v) its ss := each_strs rv
  refine wpAny_bind (wpAny_newList ?_ hlen)
  have hob : (h'.push { cls := .type "list", data := .seq its.toArray }).get? h'.objs.size = some (seqObj "list" its.toArray 0) := Heap.get?_push_size _ rfl
  refine wpAny_bind (wpAny_holding (wpAny_mono (PySem.W.list_sort_data (A := X.A.in1) (s := { s with heap := h'.push { cls := .type "list", data := .seq its.toArray }, toks := s.toks }) (enc := PyData.str) (vs := its) (bs := ss)
    (R := fun v (x : Str) => RelV (.str x) v) (Q := fun _ s' => EP X pins σ Q (.ref h'.objs.size) s') (E := fun _ _ => False) hob E0 ?_ (PySem.W.AllAlike.of fun a b => by simp [PySem.W.alike]) (PySem.W.Sortable.others fun b => ⟨by simp, by simp⟩) (by rw [← E0.length]; exact hlen) (fun b _ => by show X.A.units + 1 + 1 + (PyData.str b).depth < cLine; simp [PyData.depth]; omega) ?_)
    (fun _ s' x => wpAny_pure ⟨_, rfl, x⟩) (fun _ _ e => e.elim)))
  · refine E0.mono fun v n hv => ?_
    obtain ⟨t, rfl⟩ := hv
    exact ⟨[], .str _ _, by simp⟩
  · intro out lo eo
    obtain ⟨ep', hat⟩ := sortedHeap_at (out := out.toArray) hob
    refine ⟨.ref h'.objs.size, _, I.laid (t' := s.toks) (a := h'.objs.size) (o := .lst ((srtS ss).map V.str)) (fun b ob e => ?_) ?_ ?_, rfl, q _ (I.hok.fresh ?_)⟩
    · have hlt := Heap.lt_size (kp b ob e)
      rw [sortedHeap_old (Nat.ne_of_lt hlt) (by rw [size_push']; exact Nat.lt_succ_of_lt hlt)]
      exact Heap.get?_push_of_some _ (kp b ob e)
    · exact hsz
    · refine ⟨?_, out, ep', strs_each eo, hat⟩
      rw [List.length_map, srtS, List.length_mergeSort, ← E0.length]
      exact hlen
    · exact hsz
end
section
variable {X : Cx} {o : Expr} {p pos apos mpos : Pos} {td : TE}
theorem kv_vals : ∀ {kvs : List (Key × V)} {xs : List (Key × Value)}, KV kvs xs → Vals (kvs.map (·.2)) (xs.map (·.2))
  | _, _, .nil => .nil
  | _, _, .cons h t => .cons h.2 (kv_vals t)
/-- tuple(d.values()), the keys of d ints or texts -/
def tTupVK (td : TE) : TE := fun σ H Q => td σ H fun x H1 => ∃ (a : Addr) (kvs : List (Key × V)), x = .ref a ∧ H1 a = some (.dK kvs) ∧ LayT H1 (kvs.map (·.2)) Q
theorem pe_tupVK (hc : X.calm = true) (hg : Gl X "tuple") (hm : X.mg "tuple" = none) (hd : PE X o td) (hbase : attributeBase o "values" X.env (eval o X.env) = eval o X.env := by rfl) (hline : (apos.endLine == mpos.line) = true := by rfl)
    (hse : starEach [Expr.Call (.Attribute o "values" apos) [] [] mpos] X.env = [(false, eval (Expr.Call (.Attribute o "values" apos) [] [] mpos) X.env)] := by rfl) :
    PE X (.Call (.Name "tuple" p) [.Call (.Attribute o "values" apos) [] [] mpos] [] pos) (tTupVK td) := by
  refine ⟨fun pins s σ H Q I h => ?_⟩
  refine wpAny_Call_Name_kw (ld_blt I hg hm (show bootBuiltins "tuple" = some (.type "tuple") by decide +kernel) ?_)
  refine PyProof.Rows.callWith_type1 ?_ hse rfl
  rw [hse]
  show wpAny _ _ (spliced ((false, eval (Expr.Call (.Attribute o "values" apos) [] [] mpos) X.env) :: backTo pos (starEach [] X.env))) _ _ s
  refine Calls.spliced_cons (wpAny_Call_method0_late hbase hline (thn (hd.run pins s σ H _ I h) fun v s1 ⟨x, H1, I1, r1, a, kvs, ex, ha, q⟩ => ?_))
  subst ex
  obtain rfl : v = Value.ref a := r1
  obtain ⟨hz, hsys, xs, rel, ob, es, ep, ho, hx, hdat, hes, hps, hnd⟩ := dk_of I1.hok ha
  have raw : s1.heap.DictRaw a es ep := ⟨ob, ho, hx, hdat⟩
  refine ⟨"dict", "dict.values", F.plainAttrs_dict, F.slot_dict_values, F.type_dict_values, ⟨ob, ho, hx.1⟩, fun b e => ?_, Calls.callWith_builtin rfl (PySem.evalArgs_none ?_)⟩
  · cases e
    exact ⟨ob, ho, hx.2.1⟩
  refine call_meetsIn F.slot_dict_values ⟨ob, ho, hx.1⟩ F.entry_dict_values (F.args_dict_values_1 _) (meets_dict_values_raw a hsys) ⟨⟨es, ep, raw⟩, ?_⟩
  refine Calls.spliced_nil ?_
  have k1 : ∀ b u, s1.heap.get? b = some u → (s1.heap.push { cls := .type "dict_values", data := .fields #[.ref a] }).get? b = some u := fun b u e => Heap.get?_push_of_some _ e
  have hv0 : es.toList.map (·.val) = xs.map (·.2) := by
    have go : ∀ {l : List DictEntry} {m : List (Key × Value)}, Pairs (mixKind X.prog X.w) l m → l.map (·.val) = m.map (·.2) := by
      intro l m h
      induction h with
      | nil => rfl
      | cons _ h2 _ ih => rw [List.map_cons, List.map_cons, h2, ih]
    exact go hps
  have hl : xs.length = es.size := by
    have := congrArg List.length hv0
    simpa using this.symm
  have hlk : kvs.length = xs.length := by
    have := (kv_vals rel).length
    simpa using this
  refine call_tuple_src (KdlSrc.rawValues (r := s1.heap.objs.size) (d := a) (es := es) (ep := ep)) (I.ok.hd hc) ⟨⟨_, Heap.get?_push_size _ rfl, rfl, rfl⟩, raw.push _⟩ (by omega) fun h' tk acc kp hacc => ?_
  have I2 : Inv X pins σ H1 { s1 with heap := h', toks := tk } := I1.kept (t' := tk) fun b u e => kp b u (k1 b u e)
  have hv : Vals (kvs.map (·.2)) acc.toList := by
    have e : acc.toList = xs.map (·.2) := by
      rw [← hv0]
      refine List.ext_getElem? fun i => ?_
      by_cases hi : i < acc.size
      · obtain ⟨hi2, e1⟩ := hacc.2 i acc[i] (Array.getElem?_eq_getElem hi)
        rw [Array.getElem?_toList, Array.getElem?_eq_getElem hi, List.getElem?_map, Array.getElem?_toList, Array.getElem?_eq_getElem hi2, e1]
        rfl
      · have e3 : es.size ≤ i := by rw [← hacc.1]; omega
        rw [List.getElem?_eq_none (by simpa using hi), List.getElem?_eq_none (by simpa using e3)]
    rw [e]
    exact kv_vals rel
  have z := lay_tup (t' := tk) I2 hv (by rw [List.length_map]; exact hz) q
  rw [Array.toArray_toList] at z
  exact z
end
end Mw

set_option maxHeartbeats 4000000
/-! AwW: l.index(x), sorted(l) of texts, tuple(d.values()) of plain keys. -/
namespace Aw
open PySem PySem.Spec PyProof.Rows L2 Mw
section
variable {Z : Zx} {E : L2.St → XK} {ta : TE} {fa : AE}
def idxLW : W → List W → Sto → QK → Prop := fun a ws σ Q => ∃ ds w d j, a = .d (.list ds) ∧ ws = [w] ∧ dat σ w = some d ∧ SeqAt.shaped (.tuple ds) = true ∧ SeqAt.shaped d = true ∧ Fst ds d j ∧ Q (.d (.int (j : Nat))) σ
instance sim_idxL : SimM Z (rIdxL Z.K) idxLW := ⟨fun {ρ σ H x a xs ws Qa Q} rl va vs q kq => by
  obtain ⟨ds, w, d, j, rfl, rfl, hd, h1, h2, hf, q⟩ := q
  obtain ⟨v, rfl, vw⟩ := wrs1 vs
  have hl : PyData.canLay0 (.list ds) = true := by
    have := sh_lay h1
    simpa [PyData.canLay0] using this
  have dx : Dp Z.K H x (.list ds) := Rp.dp va hl
  have va' : Rp Z.K ρ H x (.list ds) := va
  cases va' with
  | lst h3 h4 => exact ⟨_, v, d, ds, j, rfl, rfl, dx, (dat_tp rl vw hd).dp (sh_lay h2), h1, h2, hf, kq.d .refl rl (Rp.int _) q⟩⟩
instance : MoM idxLW := ⟨fun k ⟨ds, w, d, j, h1, h2, h3, h4, h5, h6, q⟩ => ⟨ds, w, d, j, h1, h2, h3, h4, h5, h6, k _ _ q⟩⟩
theorem r_idxL {ds : List PyData} {d : PyData} {j : Nat} {σ : Sto} {Q : QK} (h1 : SeqAt.shaped (.tuple ds) = true) (h2 : SeqAt.shaped d = true) (hf : Fst ds d j) (q : Q (.d (.int (j : Nat))) σ) : idxLW (.d (.list ds)) [.d d] σ Q := ⟨ds, _, d, j, rfl, rfl, rfl, h1, h2, hf, q⟩
def srtSW : List W → Sto → QK → Prop := fun ws σ Q => ∃ w ss, ws = [w] ∧ dat σ w = some (.list (ss.map PyData.str)) ∧ Q (.d (.list ((srtS ss).map PyData.str))) σ
theorem rpAll_ss {K : PySem.W.Frag} {ρ : List Addr} {H : Hp} : ∀ {ss : List Str} {xs : List V}, RpAll K ρ H xs (ss.map PyData.str) → xs = ss.map V.str
  | [], _, h => by cases h; rfl
  | n :: ns, _, h => by
    cases h with
    | cons h t => cases h; rw [rpAll_ss t]; rfl
theorem ss_rpAll {K : PySem.W.Frag} {ρ : List Addr} {H : Hp} : ∀ (ss : List Str), RpAll K ρ H (ss.map V.str) (ss.map PyData.str)
  | [] => .nil
  | x :: ss => .cons (.str _) (ss_rpAll ss)
instance sim_srtS : SimC Z (rSortS Z.K) srtSW := ⟨fun {ρ σ H xs ws Qa Q} rl v q kq => by
  obtain ⟨w, ss, rfl, h1, q⟩ := q
  cases v with
  | cons v1 v2 =>
    cases v2
    have td := dat_tp rl v1 h1
    obtain ⟨a, xs, e, hr, hw⟩ : ∃ a xs, _ = V.ref a ∧ Rd H a (.lst xs) ∧ RpAll Z.K ρ H xs (ss.map PyData.str) := td
    have := rpAll_ss hw
    subst this
    exact ⟨a, ss, by rw [e], .inl hr, fun p np => kq.layL rl np (ss_rpAll _) q⟩⟩
instance : MoC srtSW := ⟨fun k ⟨w, ns, e, h, q⟩ => ⟨w, ns, e, h, k _ _ q⟩⟩
theorem r_srtS {w : W} {ss : List Str} {σ : Sto} {Q : QK} (h : dat σ w = some (.list (ss.map PyData.str))) (q : Q (.d (.list ((srtS ss).map PyData.str))) σ) : srtSW [w] σ Q := ⟨w, ss, rfl, h, q⟩
theorem call_sortSA {X : Cx} {K : PySem.W.Frag} {k : Nat} (hK : X.K = K) (hc : X.calm = true) (hr : Room k X.A) : CallR X (.builtin "sorted") (rSortS K) := call_sortS hK hc (by have := hr.un; omega)
def aTupVK (fa : AE) : AE := fun e σ Q X => fa e σ (fun x σ1 => ∃ i kvs ds, x = .ref i ∧ σ1[i]? = some (.dct false kvs) ∧ pures (kvs.map (·.2)) = some ds ∧ Q (.d (.tuple ds)) σ1) X
instance sim_tupVK [ia : SimE Z E ta fa] : SimE Z E (tTupVK ta) (aTupVK fa) := ⟨fun r er h k kx =>
  ia.sim r er h (fun _ _ _ _ _ g1 r1 v1 ⟨i, kvs, ds, e, hc, hp, q⟩ => by
    subst e
    obtain ⟨a, ha, rfl⟩ := v1
    obtain ⟨hk, e1, e2⟩ := r1.cell i a _ ha hc
    exact ⟨a, hk, rfl, e1, (k.go g1).layT r1 (pures_rp (prs_vals e2) hp) q⟩) kx⟩
instance [MoE fa] : MoE (aTupVK fa) := ⟨fun k q => MoE.mo (f := fa) (fun _ _ ⟨i, kvs, ds, e, hc, hp, q⟩ => ⟨i, kvs, ds, e, hc, hp, k _ _ q⟩) q⟩
end
end Aw

set_option maxHeartbeats 8000000
set_option synthInstance.maxHeartbeats 2000000
set_option synthInstance.maxSize 100000
/-! L56P: k56: its own defs as abstract programs (generated). -/
namespace Lw
open PySem PySem.Spec PyProof.Rows L2 Mw Aw
noncomputable abbrev p56Cpl : AS := (aSeq (aAsg (aDcT (aEnum (aCons (aVar 1) aNil)) (agT 2 (agCons (agN 3) (agCons (agN 4) agNil))) aYes (aVar 4) (aVar 3) [3, 4]) (agN 2))
  (aRet (aDcT (aEnum (aCons (aVar 0) aNil)) (agT 2 (agCons (agN 3) (agCons (agN 4) agNil))) (aTest (aOp (inW false) (aVar 4) (aVar 2))) (aVar 4) (aTup (aCons (aVar 3) (aCons (aOp ixW (aVar 2) (aVar 4)) aNil))) [3, 4])))
noncomputable abbrev p56Lev (fCpl : AF) : AS := (aSeq (aAsg (aCall fCpl 2 (aCons (aVar 0) (aCons (aVar 1) aNil))) (agN 2))
  (aSeq (aAsg (aDNew true) (agN 3))
  (aSeq (aFor (aIt (aVar 2)) (agN 4)
    (aSeq (aLockS (aAsg (aLc (aIt (aVar 3)) (agN 6) (aTest (aOp (ra2 (ordF fLt)) (aOp ixW (aOp ixW (aVar 2) (aVar 6)) (aD (.int 1))) (aOp ixW (aOp ixW (aVar 2) (aVar 4)) (aD (.int 1))))) (aOp ixW (aVar 3) (aVar 6)) [6]) (agN 5)))
  (aDPut (aVar 3) (aVar 4) (aOp (ra2 addD) (aD (.int 1)) (aMaxD (aCons (aVar 5) aNil) (aCons (aD (.int 0)) aNil))))))
  (aRet (aVar 3)))))
noncomputable abbrev p56Fall (fLev : AF) : AS := (aSeq (aAsg (aDNew false) (agN 2))
  (aSeq (aAsg (aCall fLev 2 (aCons (aVar 0) (aCons (aVar 1) aNil))) (agN 3))
  (aSeq (aFor (aIt (aVar 3)) (agN 4)
    (aDPut (aVar 2) (aOp ixW (aVar 3) (aVar 4)) (aOp (ra2 addD) (aGet2 (aVar 2) (aOp ixW (aVar 3) (aVar 4)) (aTup aNil)) (aTup (aCons (aVar 4) aNil)))))
  (aRet (aTupVK (aVar 2))))))
noncomputable abbrev p56Tap : AS := (aRet (aLstC (aCons (aCB listW (aCons (aSl (aVar 0) aNoP (aPart (aD (.int 63)))) aNil)) (aCons (aD (.int 0)) (aCons (aD (.int 0)) (aCons (aD (.int 0)) aNil))))))
noncomputable abbrev p56Pick : AS := (aSeq (aAsg (aVar 0) (agL 4 (agCons (agN 2) (agCons (agN 3) (agCons (agN 4) (agCons (agN 5) agNil))))))
  (aSeq (aAsg (aOp (ra2 addD) (aVar 5) (aD (.int 1))) (agSub (aVar 0) (aD (.int 3))))
  (aSeq (aIfS (aTest (aOp (ra2 (ordF fGt)) (aVar 4) (aD (.int 0))))
    (aSeq (aAsg (aOp (ra2 fdivD) (aVar 4) (aVar 1)) (agSub (aVar 0) (aD (.int 2))))
  (aRet (aOp (ra2 modD) (aVar 4) (aVar 1))))
    aNext)
  (aSeq (aAsg (aOp (ra2 addD) (aVar 3) (aD (.int 1))) (agSub (aVar 0) (aD (.int 1))))
  (aSeq (aAsg (aIf (aTest (aOp (ra2 (eqF true)) (aVar 2) (aLst aNil))) (aOp ixW (aVar 2) (aOp (ra2 modD) (aVar 3) (aCB lenW (aCons (aVar 2) aNil)))) (aD (.int 7))) (agN 6))
  (aSeq (aIfS (aAnd (aTest (aOp (ra2 (ordF fGe)) (aVar 6) (aOp (ra2 powD) (aD (.int 10)) (aD (.int 18))))) (aTest (aOp (ra2 (ordF fLt)) (aVar 3) (aCB lenW (aCons (aVar 2) aNil)))))
    (aSeq (aAsg (aOp (ra2 fdivD) (aVar 6) (aVar 1)) (agSub (aVar 0) (aD (.int 2))))
  (aRet (aOp (ra2 modD) (aVar 6) (aVar 1))))
    aNext)
  (aSeq (aAsg (aOp (ra2 modD) (aOp (ra2 powD) (aOp (ra2 addD) (aOp (ra2 modD) (aVar 6) (aD (.int 2147483587))) (aOp (ra2 mulD) (aD (.int 15485863)) (aOp (ra2 addD) (aVar 5) (aD (.int 1))))) (aD (.int 2))) (aD (.int 2147483647))) (agN 7))
  (aSeq (aAsg (aOp (ra2 modD) (aOp (ra2 powD) (aOp (ra2 addD) (aOp (ra2 addD) (aVar 7) (aOp (ra2 mulD) (aD (.int 32452843)) (aVar 5))) (aD (.int 1))) (aD (.int 2))) (aD (.int 2147483629))) (agN 7))
  (aSeq (aAsg (aOp (ra2 modD) (aOp (ra2 powD) (aOp (ra2 addD) (aOp (ra2 addD) (aVar 7) (aOp (ra2 modD) (aVar 6) (aD (.int 1000003)))) (aVar 5)) (aD (.int 2))) (aD (.int 2147483587))) (agN 7))
  (aRet (aOp (ra2 modD) (aOp (ra2 fdivD) (aVar 7) (aD (.int 32))) (aVar 1))))))))))))
noncomputable abbrev p56Word (fPick : AF) : AS := (aSeq (aAsg (aD (.str "")) (agN 1))
  (aSeq (aFor (aR1 (aCons (aOp (ra2 addD) (aD (.int 1)) (aCall fPick 2 (aCons (aVar 0) (aCons (aOp ixW (aLst (aCons (aD (.int 1)) (aCons (aD (.int 2)) (aCons (aD (.int 3)) (aCons (aD (.int 8)) aNil))))) (aCall fPick 2 (aCons (aVar 0) (aCons (aD (.int 4)) aNil)))) aNil)))) aNil)) (agN 2)
    (aAsg (aOp (ra2 addD) (aVar 1) (aOp ixW (aD (.str "abcdefghijklmnopqrstuvwxyz")) (aCall fPick 2 (aCons (aVar 0) (aCons (aD (.int 26)) aNil))))) (agN 1)))
  (aRet (aVar 1))))
noncomputable abbrev p56Signs (fPick fWord : AF) : AS := (aSeq (aAsg (aLc (aR1 (aCons (aOp (ra2 addD) (aD (.int 1)) (aCall fPick 2 (aCons (aVar 0) (aCons (aD (.int 3)) aNil)))) aNil)) (agN 3) aYes (aCall fWord 1 (aCons (aVar 0) aNil)) [3]) (agN 2))
  (aSeq (aAsg (aLstC aNil) (agN 4))
  (aSeq (aFor (aR1 (aCons (aVar 1) aNil)) (agN 3)
    (aSeq (aAsg (aTup (aCons (aOp (ra2 addD) (aD (.int 1)) (aCall fPick 2 (aCons (aVar 0) (aCons (aD (.int 14)) aNil)))) (aCons (aOp ixW (aVar 2) (aCall fPick 2 (aCons (aVar 0) (aCons (aCB lenW (aCons (aVar 2) aNil)) aNil)))) (aCons (aCall fPick 2 (aCons (aVar 0) (aCons (aD (.int 12)) aNil))) aNil)))) (agN 5))
  (aIfS (aTest (aOp (inW true) (aVar 5) (aVar 4)))
    (aDrop (aBM "list" appendW (aVar 4) (aCons (aVar 5) aNil)))
    aNext)))
  (aRet (aVar 4)))))
noncomputable abbrev p56Shuf (fPick : AF) : AS := (aSeq (aAsg (aLstC aNil) (agN 2))
  (aSeq (aFor (aIt (aVar 1)) (agN 3)
    (aDrop (aBM "list" insertW (aVar 2) (aCons (aCall fPick 2 (aCons (aVar 0) (aCons (aOp (ra2 addD) (aCB lenW (aCons (aVar 2) aNil)) (aD (.int 1))) aNil))) (aCons (aVar 3) aNil)))))
  (aRet (aVar 2))))
noncomputable abbrev p56Blk (fPick : AF) : AS := (aSeq (aAsg (aCB listW (aCons (aVar 1) aNil)) (agN 2))
  (aSeq (aFor (aR1 (aCons (aCall fPick 2 (aCons (aVar 0) (aCons (aD (.int 4)) aNil))) aNil)) (agN 3)
    (aSeq (aPar 4 5 (aCons (aCall fPick 2 (aCons (aVar 0) (aCons (aOp (ra2 addD) (aCB lenW (aCons (aVar 2) aNil)) (aD (.int 1))) aNil))) (aCons (aCall fPick 2 (aCons (aVar 0) (aCons (aOp (ra2 addD) (aCB lenW (aCons (aVar 2) aNil)) (aD (.int 1))) aNil))) aNil)))
  (aSeq (aAsg (aSl (aVar 2) (aPart (aCB min2W (aCons (aVar 4) (aCons (aVar 5) aNil)))) (aPart (aCB max2W (aCons (aVar 4) (aCons (aVar 5) aNil))))) (agN 6))
  (aSeq (aAsg (aOp (ra2 addD) (aSl (aVar 2) aNoP (aPart (aCB min2W (aCons (aVar 4) (aCons (aVar 5) aNil))))) (aSl (aVar 2) (aPart (aCB max2W (aCons (aVar 4) (aCons (aVar 5) aNil)))) aNoP)) (agN 7))
  (aSeq (aAsg (aCall fPick 2 (aCons (aVar 0) (aCons (aOp (ra2 addD) (aCB lenW (aCons (aVar 7) aNil)) (aD (.int 1))) aNil))) (agN 8))
  (aAsg (aOp (ra2 addD) (aOp (ra2 addD) (aSl (aVar 7) aNoP (aPart (aVar 8))) (aVar 6)) (aSl (aVar 7) (aPart (aVar 8)) aNoP)) (agN 2)))))))
  (aRet (aVar 2))))
noncomputable abbrev p56Two (fPick fBlk fShuf fSigns : AF) : AS := (aSeq (aAsg (aCall fPick 2 (aCons (aVar 0) (aCons (aD (.int 8)) aNil))) (agN 2))
  (aSeq (aAsg (aIf (aTest (aOp (ra2 (eqF false)) (aCall fPick 2 (aCons (aVar 0) (aCons (aD (.int 8)) aNil))) (aD (.int 0)))) (aVar 1) (aCall fPick 2 (aCons (aVar 0) (aCons (aOp (ra2 addD) (aCB min2W (aCons (aVar 1) (aCons (aD (.int 9)) aNil))) (aD (.int 1))) aNil)))) (agN 3))
  (aSeq (aAsg (aCall fSigns 2 (aCons (aVar 0) (aCons (aVar 3) aNil))) (agN 4))
  (aSeq (aAsg (aLc (aIt (aCall fSigns 2 (aCons (aVar 0) (aCons (aD (.int 4)) aNil)))) (agN 6) (aTest (aOp (inW true) (aVar 6) (aVar 4))) (aVar 6) [6]) (agN 5))
  (aSeq (aAsg (aCB listCW (aCons (aVar 4) aNil)) (agN 7))
  (aSeq (aIfS (aTest (aOp (ra2 (eqF false)) (aVar 2) (aD (.int 1))))
    (aAsg (aStp (aVar 4) (aUn (ra1 negD) (aD (.int 1)))) (agN 7))
    aNext)
  (aSeq (aIfS (aOr (aTest (aOp (ra2 (eqF false)) (aVar 2) (aD (.int 2)))) (aTest (aOp (ra2 (eqF false)) (aVar 2) (aD (.int 5)))))
    (aAsg (aCall fShuf 2 (aCons (aVar 0) (aCons (aVar 4) aNil))) (agN 7))
    aNext)
  (aSeq (aIfS (aTest (aOp (inW false) (aVar 2) (aTup (aCons (aD (.int 3)) (aCons (aD (.int 4)) (aCons (aD (.int 7)) aNil))))))
    (aAsg (aCall fBlk 2 (aCons (aVar 0) (aCons (aVar 4) aNil))) (agN 7))
    aNext)
  (aSeq (aIfS (aTest (aOp (ra2 (ordF fGt)) (aVar 2) (aD (.int 3))))
    (aSeq (aAsg (aLcC (aIt (aVar 7)) (agN 6) (aTest (aOp (ra2 (ordF fGt)) (aCall fPick 2 (aCons (aVar 0) (aCons (aD (.int 5)) aNil))) (aD (.int 0)))) (aVar 6) [6]) (agN 7))
  (aSeq (aFor (aIt (aVar 5)) (agN 6)
    (aDrop (aBM "list" insertW (aVar 7) (aCons (aCall fPick 2 (aCons (aVar 0) (aCons (aOp (ra2 addD) (aCB lenW (aCons (aVar 7) aNil)) (aD (.int 1))) aNil))) (aCons (aVar 6) aNil)))))
  (aAsg (aSl (aVar 7) aNoP (aPart (aVar 1))) (agN 7))))
    aNext)
  (aSeq (aIfS (aTest (aOp (ra2 (eqF false)) (aVar 2) (aD (.int 6))))
    (aAsg (aVar 5) (agN 7))
    aNext)
  (aSeq (aIfS (aTest (aOp (ra2 (eqF false)) (aCall fPick 2 (aCons (aVar 0) (aCons (aD (.int 2)) aNil))) (aD (.int 0))))
    (aAsgT 2 (aCons (aVar 7) (aCons (aVar 4) aNil)) (agCons (agN 4) (agCons (agN 7) agNil)))
    aNext)
  (aRet (aTup (aCons (aCB tupleW (aCons (aVar 4) aNil)) (aCons (aCB tupleW (aCons (aVar 7) aNil)) aNil)))))))))))))))
noncomputable abbrev p56Long : AS := (aSeq (aAsg (aLstC aNil) (agN 2))
  (aSeq (aFor (aIt (aRevT (aVar 0))) (agN 3)
    (aIfS (aTest (aOp (inW false) (aVar 3) (aVar 1)))
    (aSeq (aAsg (aBMT idxW (aVar 1) (aCons (aVar 3) aNil)) (agN 4))
  (aSeq (aAsg (aLc (aIt (aVar 2)) (agT 2 (agCons (agN 6) (agCons (agN 7) agNil))) (aTest (aOp (ra2 (ordF fGt)) (aVar 7) (aVar 4))) (aVar 6) [6, 7]) (agN 5))
  (aDrop (aBM "list" appendW (aVar 2) (aCons (aTup (aCons (aOp (ra2 addD) (aD (.int 1)) (aMaxD (aCons (aVar 5) aNil) (aCons (aD (.int 0)) aNil))) (aCons (aVar 4) aNil))) aNil)))))
    aNext))
  (aRet (aMaxD (aCons (aLc (aIt (aVar 2)) (agT 2 (agCons (agN 6) (agCons (agN 4) agNil))) aYes (aVar 6) [6, 4]) aNil) (aCons (aD (.int 0)) aNil)))))
noncomputable abbrev p56Isf (fLong : AF) : AS := (aSeq (aIfS (aOr (aNot (aTest (aIsi "tuple" (aVar 2)))) (aTest (aOp (ra2 (eqF true)) (aCB lenW (aCons (aVar 2) aNil)) (aCall fLong 2 (aCons (aVar 0) (aCons (aVar 1) aNil))))))
    (aRet (aD (.bool false)))
    aNext)
  (aSeq (aAsg (aTup (aCons (aLc (aIt (aVar 0)) (agN 5) aYes (aCB reprW (aCons (aVar 5) aNil)) [5]) (aCons (aLc (aIt (aVar 1)) (agN 5) aYes (aCB reprW (aCons (aVar 5) aNil)) [5]) aNil))) (agT 2 (agCons (agN 3) (agCons (agN 4) agNil))))
  (aSeq (aAsg (aLstC aNil) (agN 6))
  (aSeq (aFor (aIt (aVar 2)) (agN 7)
    (aSeq (aIfS (aOr (aNot (aTest (aIsi "tuple" (aVar 7)))) (aTest (aOp (ra2 (eqF false)) (aCB lenW (aCons (aVar 7) aNil)) (aD (.int 0)))))
    (aRet (aD (.bool false)))
    aNext)
  (aSeq (aAsg (aLcC (aIt (aVar 7)) (agN 5) aYes (aCB reprW (aCons (aVar 5) aNil)) [5]) (agN 8))
  (aSeq (aIfS (aTest (aOp (ra2 (eqF true)) (aLc (aIt (aVar 8)) (agN 9) (aOr (aTest (aOp (inW true) (aVar 9) (aVar 3))) (aTest (aOp (inW true) (aVar 9) (aVar 4)))) (aVar 9) [9]) (aLst aNil)))
    (aRet (aD (.bool false)))
    aNext)
  (aSeq (aFor (aR2 (aCons (aD (.int 1)) (aCons (aCB lenW (aCons (aVar 8) aNil)) aNil))) (agN 10)
    (aSeq (aIfS (aTest (aOp (ra2 (ordF fGe)) (aBM "list" idxLW (aVar 3) (aCons (aOp ixW (aVar 8) (aOp (ra2 subD) (aVar 10) (aD (.int 1)))) aNil)) (aBM "list" idxLW (aVar 3) (aCons (aOp ixW (aVar 8) (aVar 10)) aNil))))
    (aRet (aD (.bool false)))
    aNext)
  (aIfS (aTest (aOp (ra2 (ordF fLe)) (aBM "list" idxLW (aVar 4) (aCons (aOp ixW (aVar 8) (aOp (ra2 subD) (aVar 10) (aD (.int 1)))) aNil)) (aBM "list" idxLW (aVar 4) (aCons (aOp ixW (aVar 8) (aVar 10)) aNil))))
    (aRet (aD (.bool false)))
    aNext)))
  (aDrop (aBM "list" extendW (aVar 6) (aCons (aVar 8) aNil))))))))
  (aRet (aOp (ra2 (eqF false)) (aCB srtSW (aCons (aVar 6) aNil)) (aCB srtSW (aCons (aLc (aIt (aVar 3)) (agN 11) (aTest (aOp (inW false) (aVar 11) (aVar 4))) (aVar 11) [11]) aNil))))))))
noncomputable abbrev p56Law (fFall fIsf fTwo fTap : AF) : AS := (aSeq (aAsg (aCall fTap 1 (aCons (aVar 0) aNil)) (agN 1))
  (aSeq (aAsg (aCall fTwo 2 (aCons (aVar 1) (aCons (aD (.int 40)) aNil))) (agT 2 (agCons (agN 2) (agCons (agN 3) agNil))))
  (aSeq (aFor (aIt (aTup (aCons (aTup (aCons (aVar 2) (aCons (aVar 3) aNil))) (aCons (aTup (aCons (aVar 3) (aCons (aVar 2) aNil))) (aCons (aTup (aCons (aVar 2) (aCons (aVar 3) aNil))) aNil))))) (agT 2 (agCons (agN 4) (agCons (agN 5) agNil)))
    (aIfS (aNot (aTest (aCall fIsf 3 (aCons (aVar 4) (aCons (aVar 5) (aCons (aCall fFall 2 (aCons (aVar 4) (aCons (aVar 5) aNil))) aNil))))))
    (aRet (aD (.bool false)))
    aNext))
  (aSeq (aIfS (aNot (aTest (aCall fIsf 3 (aCons (aVar 2) (aCons (aVar 2) (aCons (aCall fFall 2 (aCons (aVar 2) (aCons (aVar 2) aNil))) aNil))))))
    (aRet (aD (.bool false)))
    aNext)
  (aRet (aAndV (aOp (ra2 (eqF false)) (aCB reprW (aCons (aCall fFall 2 (aCons (aVar 2) (aCons (aTup aNil) aNil))) aNil)) (aCB reprW (aCons (aTup aNil) aNil))) (aOp (ra2 (eqF false)) (aCB reprW (aCons (aCall fFall 2 (aCons (aTup aNil) (aCons (aVar 3) aNil))) aNil)) (aCB reprW (aCons (aTup aNil) aNil)))))))))
end Lw

set_option maxHeartbeats 4000000
/-! L56A: k55 to k60: the tap, and a pick from it. -/
namespace Lw
open PySem PySem.Spec PyProof.Rows L2 Mw Aw
def tpC (ns : List Int) (a l n : Int) : Cell := .lst [.d (.list (ns.map .int)), .d (.int a), .d (.int l), .d (.int n)]
/-- a tap after at most t picks -/
def IsTap (t : Nat) (c : Cell) : Prop := ∃ (ns : List Int) (a l n : Int), c = tpC ns a l n ∧ 0 ≤ n ∧ n ≤ t
theorem IsTap.mono {t u : Nat} {c : Cell} (h : IsTap t c) (e : t ≤ u) : IsTap u c := by
  obtain ⟨ns, a, l, n, h1, h2, h3⟩ := h
  exact ⟨ns, a, l, n, h1, h2, by omega⟩
def f56Pick : AF := fun ws σ Q _ => ∃ F m t c, ws = [.ref F, .d (.int m)] ∧ 0 < m ∧ m < 1073741824 ∧ σ[F]? = some c ∧ IsTap t c ∧ t < 1000000 ∧ ∀ r c', 0 ≤ r → r < m → IsTap (t + 1) c' → Q (.d (.int r)) (σ.set F c')
instance : MoF f56Pick := ⟨fun k ⟨F, m, t, c, h1, h2, h3, h4, h5, h6, q⟩ => ⟨F, m, t, c, h1, h2, h3, h4, h5, h6, fun a b x y z => k _ _ (q a b x y z)⟩⟩
theorem pick_ok : ∀ ws σ Q X, f56Pick ws σ Q X → aFn 8 p56Pick ws σ Q X := by
  rintro ws σ Q X ⟨F, m, t, c, rfl, m0, m1, hc, ⟨ns, a, l, n, rfl, n0, nt⟩, t6, q⟩
  have hF : F < σ.length := (List.getElem?_eq_some_iff.mp hc).1
  have at_ : ∀ {c : Cell}, (σ.set F c)[F]? = some c := fun {c} => List.getElem?_set_self hF
  have fin : ∀ (r a' l' : Int), 0 ≤ r → r < m → Q (.d (.int r)) (σ.set F (tpC ns a' l' (n + 1))) := fun r a' l' h1 h2 => q r _ h1 h2 ⟨ns, a', l', n + 1, rfl, by omega, by omega⟩
  clear q
  and_intros
  refine r_agL4 hc ?_
  and_intros
  refine r_gSub ?_
  and_intros
  refine ⟨F, _, 3, 3, rfl, rfl, hc, rfl, ?_⟩
  simp only [List.set_cons_succ, List.set_cons_zero]
  and_intros
  refine r_ite (fun hl => ?_) fun hl => ?_
  · and_intros
    refine r_fdivI (.inl ⟨by omega, by omega⟩) ?_
    and_intros
    refine r_gSub ?_
    and_intros
    refine ⟨F, _, 2, 2, rfl, rfl, at_, rfl, ?_⟩
    rw [List.set_set]
    and_intros
    refine r_modI m0 ?_
    exact fin _ a _ (Int.emod_nonneg _ (by omega)) (Int.emod_lt_of_pos _ m0)
  and_intros
  refine r_gSub ?_
  and_intros
  refine ⟨F, _, 1, 1, rfl, rfl, at_, rfl, ?_⟩
  rw [List.set_set]
  simp only [List.set_cons_succ, List.set_cons_zero]
  with_reducible refine r_seq ?_
  with_reducible refine r_asg ?_
  refine cutE (fun w s => ∃ cell : Int, w = .d (.int cell) ∧ s = σ.set F (tpC ns (a + 1) l (n + 1))) ?_ fun w s hw => ?_
  · and_intros
    refine r_pures rfl (Nat.zero_le _) ?_
    and_intros
    refine ⟨(ne_ints ns).1, ?_⟩
    rw [(ne_ints ns).2]
    and_intros
    refine r_iteN (fun hne => ?_) fun he => ?_
    · and_intros
      refine r_modI (by rw [List.length_map]; cases ns with | nil => exact absurd rfl hne | cons x r => simp) ?_
      and_intros
      obtain ⟨cell, hcell⟩ := item_at hne a
      have : atI (ns.map PyData.int) (a % ((ns.map PyData.int).length : Int)) = some (.int cell) := by
        have h1 := hcell
        rw [List.length_map, atI_map] at h1
        rw [List.length_map, atI_map]
        cases hh : atI ns (a % (ns.length : Int)) with
        | none => rw [hh] at h1; cases h1
        | some z =>
          rw [hh] at h1
          have : z = cell := by simpa using h1
          rw [this]; rfl
      exact r_ixL this ⟨cell, rfl, rfl⟩
    · and_intros
      exact ⟨7, rfl, rfl⟩
  obtain ⟨cell, rfl, rfl⟩ := hw
  with_reducible refine r_agN ?_
  with_reducible refine r_seq ?_
  with_reducible refine r_ifS ?_
  refine cutT (fun _ s' => s' = σ.set F (tpC ns (a + 1) l (n + 1))) ?_ fun b s' hb => ?_
  · and_intros
    refine r_powI ⟨by decide, by decide, by decide⟩ ?_
    and_intros
    refine r_ite (fun _ => ?_) fun _ => ?_
    · and_intros
      rfl
    · rfl
  subst hb
  refine r_iteB (fun _ => ?_) fun _ => ?_
  · and_intros
    refine r_fdivI (.inl ⟨by omega, by omega⟩) ?_
    and_intros
    refine r_gSub ?_
    and_intros
    refine ⟨F, _, 2, 2, rfl, rfl, at_, rfl, ?_⟩
    rw [List.set_set]
    and_intros
    refine r_modI m0 ?_
    exact fin _ (a + 1) _ (Int.emod_nonneg _ (by omega)) (Int.emod_lt_of_pos _ m0)
  and_intros
  refine r_modI (by decide) ?_
  and_intros
  refine r_mulI (CMulU.l (by decide) (by decide)) ?_
  and_intros
  have c1 : 0 ≤ cell % 2147483587 := Int.emod_nonneg _ (by decide)
  have c2 : cell % 2147483587 < 2147483587 := Int.emod_lt_of_pos _ (by decide)
  refine r_powI ⟨by decide, by decide, by omega⟩ ?_
  and_intros
  refine r_modI (by decide) ?_
  and_intros
  generalize hA : (cell % 2147483587 + 15485863 * (n + 1)) ^ (2 : Int).toNat % 2147483647 = A
  have A0 : 0 ≤ A := by rw [← hA]; exact Int.emod_nonneg _ (by decide)
  have A1 : A < 2147483647 := by rw [← hA]; exact Int.emod_lt_of_pos _ (by decide)
  refine r_mulI (CMulU.l (by decide) (by decide)) ?_
  and_intros
  refine r_powI ⟨by decide, by decide, by omega⟩ ?_
  and_intros
  refine r_modI (by decide) ?_
  and_intros
  generalize hB : (A + 32452843 * n + 1) ^ (2 : Int).toNat % 2147483629 = B
  have B0 : 0 ≤ B := by rw [← hB]; exact Int.emod_nonneg _ (by decide)
  have B1 : B < 2147483629 := by rw [← hB]; exact Int.emod_lt_of_pos _ (by decide)
  refine r_modI (by decide) ?_
  and_intros
  have d1 : 0 ≤ cell % 1000003 := Int.emod_nonneg _ (by decide)
  have d2 : cell % 1000003 < 1000003 := Int.emod_lt_of_pos _ (by decide)
  refine r_powI ⟨by decide, by decide, by omega⟩ ?_
  and_intros
  refine r_modI (by decide) ?_
  and_intros
  refine r_fdivI (.inl ⟨by decide, by decide⟩) ?_
  and_intros
  refine r_modI m0 ?_
  exact fin _ (a + 1) l (Int.emod_nonneg _ (by omega)) (Int.emod_lt_of_pos _ m0)
/-! ### the tap -/
def f56Tap : AF := fun ws σ Q _ => ∃ ns, ws = [.scr ns] ∧ ns.length ≤ 63 ∧ ∀ c, IsTap 0 c → Q (.ref σ.length) (σ ++ [c])
instance : MoF f56Tap := ⟨fun k ⟨ns, h1, h2, q⟩ => ⟨ns, h1, h2, fun c h => k _ _ (q c h)⟩⟩
theorem tap_ok : ∀ ws σ Q X, f56Tap ws σ Q X → aFn 1 p56Tap ws σ Q X := by
  rintro ws σ Q X ⟨ns, rfl, hl, q⟩
  and_intros
  refine r_slX ?_
  rw [cutL_map]
  refine r_nil ?_
  refine ⟨_, _, (cutL ns none (some 63)).map .int, rfl, rfl, pures_map _, ?_⟩
  and_intros
  exact ⟨by show 4 ≤ sizeLine; decide, q _ ⟨cutL ns none (some 63), 0, 0, 0, rfl, Int.le_refl _, Int.le_refl _⟩⟩
end Lw

set_option maxHeartbeats 4000000
/-! L56B: k55 to k60: a drawn word. -/
namespace Lw
open PySem PySem.Spec PyProof.Rows L2 Mw Aw
theorem r_pick {σ : Sto} {F t : Nat} {c : Cell} {j : Sto} {m : Int} {Q : QK} {X : XQ} (hF : F < σ.length) (ht : IsTap t c) (t6 : t < 1000000) (m0 : 0 < m) (m1 : m < 1073741824) (q : ∀ r c', 0 ≤ r → r < m → IsTap (t + 1) c' → Q (.d (.int r)) (Sx σ F c' j)) : f56Pick [.ref F, .d (.int m)] (Sx σ F c j) Q X :=
  ⟨F, m, t, c, rfl, m0, m1, sx_at hF, ht, t6, fun r c' h1 h2 h3 => by rw [sx_set hF]; exact q r c' h1 h2 h3⟩
theorem IsTap.clo {t : Nat} {c : Cell} (h : IsTap t c) (n : Nat) : CloC n c := by
  obtain ⟨ns, a, l, k, rfl, _⟩ := h
  intro p hp
  simp only [List.mem_cons, List.not_mem_nil, or_false] at hp
  rcases hp with rfl | rfl | rfl | rfl <;> exact True.intro
def f56Word : AF := fun ws σ Q _ => ∃ F t c, ws = [.ref F] ∧ σ[F]? = some c ∧ IsTap t c ∧ t + 20 < 1000000 ∧ ∀ z c', Wrd z → IsTap (t + 10) c' → Q (.d (.str z)) (σ.set F c')
instance : MoF f56Word := ⟨fun k ⟨F, t, c, h1, h2, h3, h4, q⟩ => ⟨F, t, c, h1, h2, h3, h4, fun a b x y => k _ _ (q a b x y)⟩⟩
theorem word_ok : ∀ ws σ Q X, f56Word ws σ Q X → aFn 3 (p56Word f56Pick) ws σ Q X := by
  rintro ws σ Q X ⟨F, t, c, rfl, hc, ht, t6, q⟩
  have hF : F < σ.length := (List.getElem?_eq_some_iff.mp hc).1
  have key : ∀ {z : Str} {c' : Cell}, Wrd z → IsTap (t + 10) c' → Q (.d (.str z)) (Sx σ F c' []) := fun {z c'} h1 h2 => by
    rw [show Sx σ F c' [] = σ.set F c' from List.append_nil _]
    exact q z c' h1 h2
  clear q
  rw [show aFn 3 (p56Word f56Pick) [.ref F] σ Q X = aFn 3 (p56Word f56Pick) [.ref F] (Sx σ F c []) Q X by rw [← sx_start hc]]
  and_intros
  refine r_pures rfl (by show 4 ≤ sizeLine; decide) ?_
  and_intros
  refine r_pick hF ht (by omega) (by decide) (by decide) fun r c1 r0 r4 ht1 => ?_
  obtain ⟨m, hm, m0, m8⟩ : ∃ m : Int, atI [PyData.int 1, .int 2, .int 3, .int 8] r = some (.int m) ∧ 0 < m ∧ m ≤ 8 := by
    have : r = 0 ∨ r = 1 ∨ r = 2 ∨ r = 3 := by omega
    rcases this with rfl | rfl | rfl | rfl
    · exact ⟨1, rfl, by decide, by decide⟩
    · exact ⟨2, rfl, by decide, by decide⟩
    · exact ⟨3, rfl, by decide, by decide⟩
    · exact ⟨8, rfl, by decide, by decide⟩
  refine r_ixL hm ?_
  and_intros
  refine r_pick hF ht1 (by omega) m0 (by omega) fun k c2 k0 k1 ht2 => ?_
  and_intros
  refine r_rng (by omega) (by omega) ?_
  refine loop_run (fun i e s => ∃ z c' v2, e = [some (.ref F), some (.d (.str z)), v2] ∧ s = Sx σ F c' [] ∧ IsTap (t + 2 + i) c' ∧ z.length = i ∧ ∀ x ∈ z.cps.toList, 97 ≤ x ∧ x ≤ 122) ⟨_, c2, none, rfl, rfl, ht2.mono (by omega), rfl, fun x hx => by rw [show (Str.ofString "").cps.toList = [] by decide +kernel] at hx; cases hx⟩ (fun i w e s Rest hw h kk => ?_) fun e s h => ?_
  · obtain ⟨z, c', v2, rfl, rfl, ht', zl, low⟩ := h
    obtain ⟨rfl, hi⟩ := rng_at hw
    have hi : i < 9 := by omega
    refine ⟨True.intro, ?_⟩
    and_intros
    refine r_pick hF ht' (by omega) (by decide) (by decide) fun s c3 s0 s1 ht3 => ?_
    refine r_sign abc_asc (by decide) s0 (by rw [abc_len]; exact s1) fun sg hsg => ?_
    have lw := abc_low sg hsg
    and_intros
    refine r_addS (Nat.le_of_lt (small (by rw [zl]; show i + 1 ≤ 1000; omega))) ?_
    and_intros
    refine kk _ _ ⟨z ++ one sg, c3, _, rfl, rfl, ht3, ?_, fun x hx => ?_⟩
    · rw [len_append, zl]; rfl
    · rw [cl_append] at hx
      rcases List.mem_append.mp hx with h | h
      · exact low x h
      · rw [cl_one] at h; rw [List.mem_singleton.mp h]; exact lw
  · obtain ⟨z, c', v2, rfl, rfl, ht', zl, low⟩ := h
    rw [rng_len] at zl ht'
    refine ⟨True.intro, ?_⟩
    and_intros
    exact key ⟨by omega, by omega, low⟩ (ht'.mono (by omega))
end Lw

set_option maxHeartbeats 4000000
/-! L56C: k55 to k60: signs drawn. -/
namespace Lw
open PySem PySem.Spec PyProof.Rows L2 Mw Aw
abbrev Sg := Int × Str × Int
abbrev sgD (s : Sg) : PyData := .tuple [.int s.1, .str s.2.1, .int s.2.2]
structure SgOk (s : Sg) : Prop where
  lo : 0 ≤ s.1
  hi : s.1 ≤ 100
  wrd : Wrd s.2.1
  lo2 : 0 ≤ s.2.2
  hi2 : s.2.2 ≤ 100
theorem it_sg {s : Sg} (h : SgOk s) : It (sgD s) := it_tup (fun x hx => by
  have h1 := h.hi
  have h2 := h.hi2
  simp only [List.mem_cons, List.not_mem_nil, or_false] at hx
  rcases hx with rfl | rfl | rfl
  · exact it_int h.lo (by omega)
  · exact it_str (fun c hc => by have := h.wrd.low c hc; omega) (by have := h.wrd.most; omega)
  · exact it_int h.lo2 (by omega)) (by simp)
theorem eqv_sg (m n : Sg) : PyData.eqv (sgD m) (sgD n) = decide (m = n) := by
  obtain ⟨i, x, a⟩ := m
  obtain ⟨j, y, b⟩ := n
  simp only [sgD, PyData.eqv, PyData.eqvAll, Bool.and_true]
  by_cases h1 : i = j
  · by_cases h2 : x = y
    · by_cases h3 : a = b
      · subst h1; subst h2; subst h3; simp
      · simp [h3]
    · simp [h2]
  · simp [h1]
theorem any_sg (l : List Sg) (n : Sg) : ((l.map sgD).any fun z => PyData.eqv z (sgD n)) = decide (n ∈ l) := by
  induction l with
  | nil => rfl
  | cons m r ih =>
    rw [List.map_cons, List.any_cons, ih, eqv_sg]
    by_cases h : m = n
    · simp [h]
    · simp [h, Ne.symm h]
theorem od_sgs {l : List Sg} (h : ∀ s ∈ l, SgOk s) (hl : l.length ≤ 100) : Od (.tuple (l.map sgD)) := IL.od (n := 100) ⟨fun y hy => by obtain ⟨n, hn, rfl⟩ := List.mem_map.mp hy; exact it_sg (h n hn), by rw [List.length_map]; exact hl⟩ (by decide)
theorem od_sg {s : Sg} (h : SgOk s) : Od (sgD s) := (IL.od (IL.one (it_sg h)) (by decide)).tup (by simp)
abbrev sgW (l : List Sg) : List W := l.map fun s => .d (sgD s)
theorem pures_sg (l : List Sg) : pures (sgW l) = some (l.map sgD) := by rw [show sgW l = (l.map sgD).map Aw.W.d by simp [sgW]]; exact pures_map _
theorem r_inS {n : Bool} {s : Sg} {l : List Sg} {i : Nat} {σ : Sto} {Q : QK} (hc : σ[i]? = some (.lst (sgW l))) (h1 : SgOk s) (h2 : ∀ s ∈ l, SgOk s) (hl : l.length ≤ 100)
    (h : Q (.d (.bool (if n then !decide (s ∈ l) else decide (s ∈ l)))) σ) : inW n (.d (sgD s)) (.ref i) σ Q := by
  refine ⟨sgD s, rfl, ?_⟩
  have e : prsOf σ (.ref i) = none := by simp only [prsOf, hc]
  have ed : dat σ (.ref i) = some (.list (l.map sgD)) := by simp only [dat, hc, pures_sg]; rfl
  rw [e]
  refine ⟨_, by unfold seqOf; rw [ed], (od_sg h1).sh, (od_sgs h2 hl).sh, ?_⟩
  rw [any_sg]
  exact h
theorem sx_shT {σ : Sto} {F t : Nat} {c c' : Cell} {j : Sto} (hF : F < σ.length) (hf : IsTap t c') : (Sx σ F c' j).length = (Sx σ F c j).length ∧ ∀ (i : Nat) (d : Cell), (Sx σ F c' j)[i]? = some d → (Sx σ F c j)[i]? = some d ∨ CloC (Sx σ F c j).length d := by
  refine ⟨by simp, fun i d h => ?_⟩
  by_cases e : i = F
  · subst e
    rw [sx_at hF] at h
    cases h
    exact .inr (hf.clo _)
  · left
    rw [← h]
    by_cases hi : i < σ.length
    · rw [List.getElem?_append_left (by simpa using hi), List.getElem?_append_left (by simpa using hi), List.getElem?_set_ne (Ne.symm e), List.getElem?_set_ne (Ne.symm e)]
    · rw [List.getElem?_append_right (by simpa using hi), List.getElem?_append_right (by simpa using hi)]
      simp
def f56Signs : AF := fun ws σ Q _ => ∃ F t m c, ws = [.ref F, .d (.int (m : Nat))] ∧ σ[F]? = some c ∧ IsTap t c ∧ t + 1000 < 1000000 ∧ m ≤ 60 ∧ ∀ (l : List Sg) c', l.length ≤ m → l.Nodup → (∀ s ∈ l, SgOk s) → IsTap (t + 300) c' → Q (.d (.list (l.map sgD))) (σ.set F c')
instance : MoF f56Signs := ⟨fun k ⟨F, t, m, c, h1, h2, h3, h4, h5, q⟩ => ⟨F, t, m, c, h1, h2, h3, h4, h5, fun a b x y z u => k _ _ (q a b x y z u)⟩⟩
theorem signs_ok : ∀ ws σ Q X, f56Signs ws σ Q X → aFn 6 (p56Signs f56Pick f56Word) ws σ (fun w σ' => Told σ.length σ σ' w Q) X := by
  rintro ws σ Q X ⟨F, t, m, c, rfl, hc, ht, t6, m60, q⟩
  have hF : F < σ.length := (List.getElem?_eq_some_iff.mp hc).1
  generalize hQ : (fun w σ' => Told σ.length σ σ' w Q) = Q'
  have key : ∀ {l : List Sg} {c' : Cell} {j : Sto} {i : Nat}, σ.length ≤ i → (Sx σ F c' j)[i]? = some (.lst (sgW l)) → l.length ≤ m → l.Nodup → (∀ s ∈ l, SgOk s) → IsTap (t + 300) c' → Q' (.ref i) (Sx σ F c' j) := fun {l c' j i} hi hcc h1 h2 h3 h4 => by
    rw [← hQ]
    refine ⟨.set (h4.clo _), .inl ⟨.list (l.map sgD), .lst hi hcc (frzAll_pures (pures_sg l)), ?_⟩⟩
    rw [List.take_append_of_le_length (by simp), List.take_of_length_le (by simp)]
    exact q l c' h1 h2 h3 h4
  clear hQ q
  rw [show aFn 6 (p56Signs f56Pick f56Word) [.ref F, .d (.int (m : Nat))] σ Q' X = aFn 6 (p56Signs f56Pick f56Word) [.ref F, .d (.int (m : Nat))] (Sx σ F c []) Q' X by rw [← sx_start hc]]
  and_intros
  refine r_pick hF ht (by omega) (by decide) (by decide) fun r c1 r0 r3 ht1 => ?_
  and_intros
  refine r_rng (by omega) (by omega) ?_
  refine lc_fz (fun i acc s => ∃ c zs, s = Sx σ F c [] ∧ IsTap (t + 1 + 10 * i) c ∧ acc = zs.map PyData.str ∧ zs.length = i ∧ ∀ z ∈ zs, Wrd z) ⟨c1, [], rfl, ht1, rfl, rfl, fun z hz => by cases hz⟩ (fun i acc s h => by
    obtain ⟨c, zs, rfl, hf, _⟩ := h
    exact sx_shT hF hf) (fun i w acc s Rest hw h k => ?_) fun acc s h => ?_
  · obtain ⟨c, zs, rfl, hf, rfl, zl, wz⟩ := h
    obtain ⟨rfl, hi⟩ := rng_at hw
    have hi : i < 4 := by omega
    refine ⟨True.intro, ?_⟩
    rw [sx_app]
    and_intros
    refine ⟨F, t + 1 + 10 * i, c, rfl, sx_at hF, hf, by omega, fun z c' wz1 ht' => ?_⟩
    rw [sx_set hF, ← sx_app]
    refine tg_app (by simp) (small (by rw [List.length_map]; omega)) (k _ _ ⟨c', zs ++ [z], rfl, ht'.mono (by omega), by simp, by simp [zl], fun y hy => ?_⟩)
    rcases List.mem_append.mp hy with h | h
    · exact wz y h
    · rw [List.mem_singleton.mp h]; exact wz1
  obtain ⟨c2, zs, rfl, ht2, rfl, zl, wz⟩ := h
  rw [rng_len] at zl ht2
  refine ⟨True.intro, ?_⟩
  and_intros
  refine ⟨Nat.zero_le _, ?_⟩
  rw [sx_app, sx_len]
  and_intros
  refine r_rng (by omega) (by omega) ?_
  rw [Int.toNat_natCast]
  refine loop_run (fun i e s => ∃ l c' v3 v5, e = [some (.ref F), some (.d (.int (m : Nat))), some (.d (.list (zs.map PyData.str))), v3, some (.ref σ.length), v5] ∧ s = Sx σ F c' [.lst (sgW l)] ∧ IsTap (t + 50 + 3 * i) c' ∧ l.length ≤ i ∧ l.Nodup ∧ ∀ s ∈ l, SgOk s) ⟨[], c2, _, _, rfl, rfl, ht2.mono (by omega), Nat.le_refl _, .nil, fun s hs => by cases hs⟩ (fun i w e s Rest hw h kk => ?_) fun e s h => ?_
  · obtain ⟨l, c', v3, v5, rfl, rfl, ht', ll, ln, lo⟩ := h
    obtain ⟨rfl, hi⟩ := rng_at hw
    have cell : ∀ {c : Cell}, (Sx σ F c [.lst (sgW l)])[σ.length]? = some (.lst (sgW l)) := fun {c} => by rw [sx_j0]; rfl
    refine ⟨True.intro, ?_⟩
    and_intros
    refine r_pick hF ht' (by omega) (by decide) (by decide) fun a c3 a0 a1 ht3 => ?_
    and_intros
    rw [List.length_map]
    refine r_pick hF ht3 (by omega) (by omega) (by omega) fun b c4 b0 b1 ht4 => ?_
    obtain ⟨bn, rfl⟩ : ∃ j : Nat, b = (j : Int) := ⟨b.toNat, (Int.toNat_of_nonneg b0).symm⟩
    have hb : (zs.map PyData.str)[bn]? = some (.str zs[bn]) := by rw [List.getElem?_map, List.getElem?_eq_getElem (by omega)]; rfl
    have wb := wz _ (List.getElem_mem (by omega : bn < zs.length))
    refine r_ixL (atI_nat hb) ?_
    generalize zs[bn] = zb at wb
    and_intros
    refine r_pick hF ht4 (by omega) (by decide) (by decide) fun d c5 d0 d1 ht5 => ?_
    and_intros
    refine r_pures rfl (by show 3 ≤ sizeLine; decide) ?_
    have so : SgOk (1 + a, zb, d) := ⟨by show (0 : Int) ≤ 1 + a; omega, by show 1 + a ≤ (100 : Int); omega, wb, d0, by show d ≤ (100 : Int); omega⟩
    and_intros
    refine r_inS (s := (1 + a, zb, d)) cell so lo (by omega) ?_
    and_intros
    by_cases h : (1 + a, zb, d) ∈ l
    · rw [decide_eq_true h]
      refine r_nt ?_
      and_intros
      exact kk _ _ ⟨l, c5, _, _, rfl, rfl, ht5.mono (by omega), by omega, ln, lo⟩
    · rw [decide_eq_false h]
      refine r_iteT ?_
      and_intros
      refine r_tyC (ws := sgW l) cell ?_
      and_intros
      refine r_append (ws := sgW l) cell (small (by rw [List.length_map]; omega)) ?_
      rw [sx_sj0]
      refine kk _ _ ⟨l ++ [(1 + a, zb, d)], c5, _, _, rfl, by simp [sgW], ht5.mono (by omega), by simp; omega, ?_, fun s hs => ?_⟩
      · rw [List.nodup_append]
        refine ⟨ln, by simp, fun x hx y hy e => ?_⟩
        rw [List.mem_singleton.mp hy] at e
        exact h (e ▸ hx)
      · rcases List.mem_append.mp hs with h | h
        · exact lo s h
        · rw [List.mem_singleton.mp h]; exact so
  · obtain ⟨l, c', v3, v5, rfl, rfl, ht', ll, ln, lo⟩ := h
    rw [rng_len] at ll ht'
    refine ⟨True.intro, ?_⟩
    and_intros
    exact key (Nat.le_refl _) (by rw [sx_j0]; rfl) ll ln lo (ht'.mono (by omega))
end Lw

set_option maxHeartbeats 4000000
/-! L56D: k55 to k60: signs shuffled. -/
namespace Lw
open PySem PySem.Spec PyProof.Rows L2 Mw Aw
def f56Shuf : AF := fun ws σ Q _ => ∃ F t l c, ws = [.ref F, .d (.list (l.map sgD))] ∧ σ[F]? = some c ∧ IsTap t c ∧ t + 1000 < 1000000 ∧ l.length ≤ 60 ∧ ∀ (l' : List Sg) c', l'.Perm l → IsTap (t + 60) c' → Q (.d (.list (l'.map sgD))) (σ.set F c')
instance : MoF f56Shuf := ⟨fun k ⟨F, t, l, c, h1, h2, h3, h4, h5, q⟩ => ⟨F, t, l, c, h1, h2, h3, h4, h5, fun a b x y => k _ _ (q a b x y)⟩⟩
theorem shuf_ok : ∀ ws σ Q X, f56Shuf ws σ Q X → aFn 4 (p56Shuf f56Pick) ws σ (fun w σ' => Told σ.length σ σ' w Q) X := by
  rintro ws σ Q X ⟨F, t, l, c, rfl, hc, ht, t6, l60, q⟩
  have hF : F < σ.length := (List.getElem?_eq_some_iff.mp hc).1
  generalize hQ : (fun w σ' => Told σ.length σ σ' w Q) = Q'
  have key : ∀ {l' : List Sg} {c' : Cell} {j : Sto} {i : Nat}, σ.length ≤ i → (Sx σ F c' j)[i]? = some (.lst (sgW l')) → l'.Perm l → IsTap (t + 60) c' → Q' (.ref i) (Sx σ F c' j) := fun {l' c' j i} hi hcc h1 h4 => by
    rw [← hQ]
    refine ⟨.set (h4.clo _), .inl ⟨.list (l'.map sgD), .lst hi hcc (frzAll_pures (pures_sg l')), ?_⟩⟩
    rw [List.take_append_of_le_length (by simp), List.take_of_length_le (by simp)]
    exact q l' c' h1 h4
  clear hQ q
  rw [show aFn 4 (p56Shuf f56Pick) [.ref F, .d (.list (l.map sgD))] σ Q' X = aFn 4 (p56Shuf f56Pick) [.ref F, .d (.list (l.map sgD))] (Sx σ F c []) Q' X by rw [← sx_start hc]]
  and_intros
  refine ⟨Nat.zero_le _, ?_⟩
  rw [sx_app, sx_len]
  and_intros
  rw [mapW]
  refine loop_run (fun i e s => ∃ l' c' v3, e = [some (.ref F), some (.d (.list (l.map sgD))), some (.ref σ.length), v3] ∧ s = Sx σ F c' [.lst (sgW l')] ∧ IsTap (t + i) c' ∧ l'.Perm (l.take i)) ⟨[], c, none, rfl, rfl, ht, .refl _⟩ (fun i w e s Rest hw h kk => ?_) fun e s h => ?_
  · obtain ⟨l', c', v3, rfl, rfl, ht', pm⟩ := h
    rw [List.getElem?_map] at hw
    obtain ⟨x, hx, rfl⟩ := Option.map_eq_some_iff.mp hw
    have hi := (List.getElem?_eq_some_iff.mp hx).1
    have ll := pm.length_eq
    rw [List.length_take] at ll
    have cell : ∀ {c : Cell}, (Sx σ F c [.lst (sgW l')])[σ.length]? = some (.lst (sgW l')) := fun {c} => by rw [sx_j0]; rfl
    refine ⟨True.intro, ?_⟩
    and_intros
    refine r_tyC (ws := sgW l') cell ?_
    and_intros
    refine r_lenC cell ?_
    and_intros
    rw [List.length_map]
    refine r_pick hF ht' (by omega) (by omega) (by omega) fun a c3 a0 a1 ht3 => ?_
    and_intros
    refine r_insert (ws := sgW l') cell (small (by rw [List.length_map]; omega)) a0 (by omega) ?_
    rw [sx_sj0]
    refine kk _ _ ⟨l'.take a.toNat ++ [x] ++ l'.drop a.toNat, c3, _, rfl, by simp [sgW], ht3.mono (by omega), ?_⟩
    rw [take_snoc hx]
    refine List.Perm.trans ?_ (List.Perm.append_right [x] pm)
    refine List.Perm.trans (List.Perm.append_right _ List.perm_append_comm) ?_
    rw [List.append_assoc, List.take_append_drop]
    exact List.perm_append_comm
  · obtain ⟨l', c', v3, rfl, rfl, ht', pm⟩ := h
    rw [List.length_map, List.take_length] at pm
    rw [List.length_map] at ht'
    refine ⟨True.intro, ?_⟩
    and_intros
    exact key (Nat.le_refl _) (by rw [sx_j0]; rfl) pm (ht'.mono (by omega))
end Lw

set_option maxHeartbeats 4000000
/-! L56E: k55 to k60: stretches of signs moved. -/
namespace Lw
open PySem PySem.Spec PyProof.Rows L2 Mw Aw
theorem cut_mid {α : Type} (xs : List α) {a b : Nat} (hab : a ≤ b) (hb : b ≤ xs.length) : cutL xs (some (a : Int)) (some (b : Int)) = (xs.drop a).take (b - a) := by
  unfold cutL
  rw [HT.sIx_nat, HT.sIx_nat, Nat.min_eq_left (by omega), Nat.min_eq_left (by omega)]
theorem r_min2 {i j : Int} {σ : Sto} {Q : QK} (h : Q (.d (.int (if j < i then j else i))) σ) : min2W [.d (.int i), .d (.int j)] σ Q := ⟨i, j, rfl, h⟩
theorem r_max2 {i j : Int} {σ : Sto} {Q : QK} (h : Q (.d (.int (if j > i then j else i))) σ) : max2W [.d (.int i), .d (.int j)] σ Q := ⟨i, j, rfl, h⟩
def f56Blk : AF := fun ws σ Q _ => ∃ F t l c, ws = [.ref F, .d (.list (l.map sgD))] ∧ σ[F]? = some c ∧ IsTap t c ∧ t + 1000 < 1000000 ∧ l.length ≤ 60 ∧ ∀ (l' : List Sg) c', l'.Perm l → IsTap (t + 60) c' → Q (.d (.list (l'.map sgD))) (σ.set F c')
instance : MoF f56Blk := ⟨fun k ⟨F, t, l, c, h1, h2, h3, h4, h5, q⟩ => ⟨F, t, l, c, h1, h2, h3, h4, h5, fun a b x y => k _ _ (q a b x y)⟩⟩
theorem blk_ok : ∀ ws σ Q X, f56Blk ws σ Q X → aFn 9 (p56Blk f56Pick) ws σ Q X := by
  rintro ws σ Q X ⟨F, t, l, c, rfl, hc, ht, t6, l60, q⟩
  have hF : F < σ.length := (List.getElem?_eq_some_iff.mp hc).1
  have key : ∀ {l' : List Sg} {c' : Cell}, l'.Perm l → IsTap (t + 60) c' → Q (.d (.list (l'.map sgD))) (Sx σ F c' []) := fun {l' c'} h1 h2 => by
    rw [show Sx σ F c' [] = σ.set F c' from List.append_nil _]
    exact q l' c' h1 h2
  clear q
  rw [show aFn 9 (p56Blk f56Pick) [.ref F, .d (.list (l.map sgD))] σ Q X = aFn 9 (p56Blk f56Pick) [.ref F, .d (.list (l.map sgD))] (Sx σ F c []) Q X by rw [← sx_start hc]]
  and_intros
  refine r_pick hF ht (by omega) (by decide) (by decide) fun r c1 r0 r4 ht1 => ?_
  and_intros
  refine r_rng (by omega) (by omega) ?_
  refine loop_run (fun i e s => ∃ l' c' v3 v4 v5 v6 v7 v8, e = [some (.ref F), some (.d (.list (l.map sgD))), some (.d (.list (l'.map sgD))), v3, v4, v5, v6, v7, v8] ∧ s = Sx σ F c' [] ∧ IsTap (t + 1 + 3 * i) c' ∧ l'.Perm l) ⟨l, c1, _, _, _, _, _, _, rfl, rfl, ht1, .refl _⟩ (fun i w e s Rest hw h kk => ?_) fun e s h => ?_
  · obtain ⟨l', c', v3, v4, v5, v6, v7, v8, rfl, rfl, ht', pm⟩ := h
    obtain ⟨rfl, hi⟩ := rng_at hw
    have hi : i < 4 := by omega
    have ll := pm.length_eq
    refine ⟨True.intro, ?_⟩
    and_intros
    with_reducible refine r_par ?_
    and_intros
    rw [List.length_map]
    refine r_pick hF ht' (by omega) (by omega) (by omega) fun a c3 a0 a1 ht3 => ?_
    and_intros
    rw [List.length_map]
    refine r_pick hF ht3 (by omega) (by omega) (by omega) fun b c4 b0 b1 ht4 => ?_
    and_intros
    refine ⟨_, _, rfl, ?_⟩
    obtain ⟨lo, hlo, hi1, elo, ehi, hlh, hhl⟩ : ∃ (lo hi : Nat), True ∧ (if b < a then b else a) = (lo : Int) ∧ (if b > a then b else a) = (hi : Int) ∧ lo ≤ hi ∧ hi ≤ l'.length := by
      refine ⟨(if b < a then b else a).toNat, (if b > a then b else a).toNat, trivial, ?_, ?_, ?_, ?_⟩
      · split <;> omega
      · split <;> omega
      · split <;> split <;> omega
      · split <;> omega
    and_intros
    refine r_min2 ?_
    rw [elo]
    and_intros
    refine r_max2 ?_
    rw [ehi]
    and_intros
    refine r_min2 ?_
    rw [elo]
    and_intros
    refine r_max2 ?_
    rw [ehi]
    and_intros
    have hm : ∀ {lo hi : Option Int}, cutL (l'.map sgD) lo hi = (cutL l' lo hi).map sgD := fun {lo hi} => cutL_map ..
    rw [hm, hm, hm, cut_mid l' hlh hhl, cut_take, cut_dropL _ _ hhl]
    refine r_addL (Nat.le_of_lt (small (by simp; omega))) ?_
    rw [← List.map_append]
    have e1 : (l'.take lo ++ l'.drop hlo).length ≤ 60 := by simp; omega
    have pm2 : ((l'.take lo ++ l'.drop hlo) ++ (l'.drop lo).take (hlo - lo)).Perm l := by
      refine List.Perm.trans ?_ pm
      have e2 : l' = l'.take lo ++ ((l'.drop lo).take (hlo - lo) ++ l'.drop hlo) := by
        have e3 : (l'.drop lo).drop (hlo - lo) = l'.drop hlo := by rw [List.drop_drop]; congr 1; omega
        rw [← e3, List.take_append_drop, List.take_append_drop]
      conv => rhs; rw [e2]
      rw [List.append_assoc]
      exact List.Perm.append_left _ List.perm_append_comm
    generalize hcut : (l'.drop lo).take (hlo - lo) = ct at pm2
    have cl : ct.length ≤ 60 := by rw [← hcut]; simp; omega
    generalize l'.take lo ++ l'.drop hlo = rs at e1 pm2
    and_intros
    rw [List.length_map]
    refine r_pick hF ht4 (by omega) (by omega) (by omega) fun q c5 q0 q1 ht5 => ?_
    obtain ⟨qn, rfl⟩ : ∃ j : Nat, q = (j : Int) := ⟨q.toNat, (Int.toNat_of_nonneg q0).symm⟩
    have hm2 : ∀ {lo hi : Option Int}, cutL (rs.map sgD) lo hi = (cutL rs lo hi).map sgD := fun {lo hi} => cutL_map ..
    and_intros
    rw [hm2, cut_take]
    refine r_addL (Nat.le_of_lt (small (by simp; omega))) ?_
    and_intros
    rw [hm2, cut_dropL _ _ (by omega)]
    refine r_addL (Nat.le_of_lt (small (by simp; omega))) ?_
    rw [← List.map_append, ← List.map_append]
    refine kk _ _ ⟨rs.take qn ++ ct ++ rs.drop qn, c5, _, _, _, _, _, _, rfl, rfl, ht5.mono (by omega), ?_⟩
    refine List.Perm.trans ?_ pm2
    conv => rhs; rw [← List.take_append_drop qn rs]
    rw [List.append_assoc, List.append_assoc]
    exact List.Perm.append_left _ List.perm_append_comm
  · obtain ⟨l', c', v3, v4, v5, v6, v7, v8, rfl, rfl, ht', pm⟩ := h
    rw [rng_len] at ht'
    refine ⟨True.intro, ?_⟩
    and_intros
    exact key pm (ht'.mono (by omega))
end Lw

set_option maxHeartbeats 4000000
/-! L56F: k55 to k60: two rows of signs. -/
namespace Lw
open PySem PySem.Spec PyProof.Rows L2 Mw Aw
section
variable {fa fb fc : AE} {fr : AA} {ai : AI} {ag : AG} {a b : AS}
instance [MoE fa] : MoS (aDrop fa) := ⟨fun {k k' e σ} kn kr kx q => by
  unfold aDrop at q ⊢
  rw [← kx]
  exact MoE.mo (f := fa) (fun _ _ q => kn _ _ q) q⟩
theorem loop_mo [MoG ag] [m : MoS b] {stay : Sto → Prop} {k k' : AK} (kn : ∀ e s, k.nx e s → k'.nx e s) (kr : ∀ w s, k.rt w s → k'.rt w s) (kx : k.ex = k'.ex) : ∀ {items : List Aw.W} {e : Ev} {σ : Sto}, aLoop ag b stay k items e σ → aLoop ag b stay k' items e σ
  | [], e, σ, h => ⟨h.1, kn _ _ h.2⟩
  | w :: r, e, σ, h => ⟨h.1, MoG.mo (g := ag) (fun e1 s1 h1 => m.mo (k := { k with nx := aLoop ag b stay k r }) (k' := { k' with nx := aLoop ag b stay k' r }) (fun _ _ q => loop_mo kn kr kx q) kr kx h1) h.2⟩
instance [MoI ai] [MoG ag] [MoS b] : MoS (aFor ai ag b) := ⟨fun {k k' e σ} kn kr kx q => by
  unfold aFor at q ⊢
  rw [← kx]
  exact MoI.mo (f := ai) (fun _ _ _ q => loop_mo kn kr kx q) q⟩
instance [ma : MoS a] [mb : MoS b] : MoS (aSeq a b) := ⟨fun {k k' e σ} kn kr kx q => by
  unfold aSeq at q ⊢
  exact ma.mo (k := { k with nx := b k }) (k' := { k' with nx := b k' }) (fun _ _ q => mb.mo kn kr kx q) kr kx q⟩
instance {n : Nat} {at_ : List Aw.W → Ev → Sto → (Ev → Sto → Prop) → Prop} [MoA fr] [MoGs at_] : MoS (aAsgT n fr at_) := ⟨fun {k k' e σ} kn kr kx q => by
  unfold aAsgT at q ⊢
  rw [← kx]
  exact MoA.mo (f := fr) (fun _ _ ⟨h1, h2, q⟩ => ⟨h1, h2, MoGs.mo (g := at_) kn q⟩) q⟩
end
theorem r_slC {i : Nat} {ds : List PyData} {l u : Option Int} {σ : Sto} {Q : QK} (hd : dat σ (.ref i) = some (.list ds)) (h : Q (.d (.list (cutL ds l u))) σ) : slW (.ref i) l u σ Q := ⟨_, hd, h⟩
theorem fm_if {α β : Type} (p : α → Bool) (g : α → β) : ∀ (L : List α), L.filterMap (fun x => if p x = true then some (g x) else none) = (L.filter p).map g
  | [] => rfl
  | x :: r => by
    rw [List.filterMap_cons, List.filter_cons, fm_if p g r]
    cases p x <;> rfl
/-- a row that may be a cell -/
def Oth (σ j : Sto) (w : Aw.W) (o : List Sg) : Prop := w = .d (.list (o.map sgD)) ∨ ∃ i, w = .ref (σ.length + i) ∧ j[i]? = some (.lst (sgW o))
theorem Oth.app {σ j j' : Sto} {w : Aw.W} {o : List Sg} (h : Oth σ j w o) : Oth σ (j ++ j') w o := by
  rcases h with h | ⟨i, e, h⟩
  · exact .inl h
  · refine .inr ⟨i, e, ?_⟩
    rw [List.getElem?_append_left (List.getElem?_eq_some_iff.mp h).1]
    exact h
theorem r_tupO {σ j : Sto} {w : Aw.W} {o : List Sg} {F : Nat} {c : Cell} {Q : QK} (h : Oth σ j w o) (q : Q (.d (.tuple (o.map sgD))) (Sx σ F c j)) : tupleW [w] (Sx σ F c j) Q := by
  rcases h with rfl | ⟨i, rfl, h⟩
  · exact r_tuple q
  · exact ⟨_, sgW o, o.map sgD, rfl, by simp only [itemsOf, sx_j, h], pures_sg o, q⟩
theorem r_itO {σ j : Sto} {w : Aw.W} {o : List Sg} {F : Nat} {c : Cell} {R : List Aw.W → (Sto → Prop) → Sto → Prop} (h : Oth σ j w o) (q : ∀ stay : Sto → Prop, (∀ c' j', stay (Sx σ F c' (j ++ j'))) → R (sgW o) stay (Sx σ F c j)) : itW (Sx σ F c j) R w := by
  rcases h with rfl | ⟨i, rfl, h⟩
  · refine r_itL ?_
    rw [show (o.map sgD).map Aw.W.d = sgW o by simp [sgW]]
    exact q _ fun _ _ => True.intro
  · refine r_itC (ws := sgW o) (by rw [sx_j]; exact h) (q _ fun c' j' => ?_)
    rw [sx_j, List.getElem?_append_left (List.getElem?_eq_some_iff.mp h).1]
    exact h
/-- signs, each once -/
structure Row (m : Nat) (l : List Sg) : Prop where
  nd : l.Nodup
  ok : ∀ s ∈ l, SgOk s
  len : l.length ≤ m
theorem Row.perm {m : Nat} {l l' : List Sg} (h : Row m l) (p : l'.Perm l) : Row m l' := ⟨p.nodup_iff.mpr h.nd, fun s hs => h.ok s (p.mem_iff.mp hs), by rw [p.length_eq]; exact h.len⟩
def f56Two : AF := fun ws σ Q _ => ∃ F t m c, ws = [.ref F, .d (.int (m : Nat))] ∧ σ[F]? = some c ∧ IsTap t c ∧ t + 10000 < 1000000 ∧ m ≤ 40 ∧ 4 ≤ m ∧ ∀ (a b : List Sg) c', Row m a → Row m b → IsTap (t + 2000) c' → Q (.d (.tuple [.tuple (a.map sgD), .tuple (b.map sgD)])) (σ.set F c')
instance : MoF f56Two := ⟨fun k ⟨F, t, m, c, h1, h2, h3, h4, h5, h6, q⟩ => ⟨F, t, m, c, h1, h2, h3, h4, h5, h6, fun a b c x y z => k _ _ (q a b c x y z)⟩⟩
theorem two_ok : ∀ ws σ Q X, f56Two ws σ Q X → aFn 8 (p56Two f56Pick f56Blk f56Shuf f56Signs) ws σ (fun w σ' => Told σ.length σ σ' w Q) X := by
  rintro ws σ Q X ⟨F, t, m, c, rfl, hc, ht, t6, m40, m4, q⟩
  have hF : F < σ.length := (List.getElem?_eq_some_iff.mp hc).1
  generalize hQ : (fun w σ' => Told σ.length σ σ' w Q) = Q'
  have key : ∀ {a b : List Sg} {c' : Cell} {j : Sto}, Row m a → Row m b → IsTap (t + 2000) c' → Q' (.d (.tuple [.tuple (a.map sgD), .tuple (b.map sgD)])) (Sx σ F c' j) := fun {a b c' j} h1 h2 h4 => by
    rw [← hQ]
    refine ⟨.set (h4.clo _), .inl ⟨_, .d _, ?_⟩⟩
    rw [List.take_append_of_le_length (by simp), List.take_of_length_le (by simp)]
    exact q a b c' h1 h2 h4
  clear hQ q
  rw [show aFn 8 (p56Two f56Pick f56Blk f56Shuf f56Signs) [.ref F, .d (.int (m : Nat))] σ Q' X = aFn 8 (p56Two f56Pick f56Blk f56Shuf f56Signs) [.ref F, .d (.int (m : Nat))] (Sx σ F c []) Q' X by rw [← sx_start hc]]
  and_intros
  refine r_pick hF ht (by omega) (by decide) (by decide) fun way c1 w0 w8 ht1 => ?_
  with_reducible refine r_agN ?_
  with_reducible refine r_seq ?_
  with_reducible refine r_asg ?_
  refine cutE (fun w s => ∃ (n : Nat) (c3 : Cell), w = .d (.int n) ∧ n ≤ m ∧ s = Sx σ F c3 [] ∧ IsTap (t + 3) c3) ?_ fun w s hw => ?_
  · and_intros
    refine r_pick hF ht1 (by omega) (by decide) (by decide) fun r c2 r0 r8 ht2 => ?_
    and_intros
    refine r_ite (fun _ => ?_) fun _ => ?_
    · and_intros
      exact ⟨m, c2, rfl, Nat.le_refl _, rfl, ht2.mono (by omega)⟩
    · and_intros
      refine r_min2 ?_
      and_intros
      have e : (if (9 : Int) < (m : Int) then (9 : Int) else (m : Int)) = ((min m 9 : Nat) : Int) := by
        split
        · rw [Nat.min_eq_right (by omega)]; rfl
        · rw [Nat.min_eq_left (by omega)]
      rw [e]
      refine r_pick hF ht2 (by omega) (by omega) (by omega) fun n c3 n0 n1 ht3 => ?_
      exact ⟨n.toNat, c3, by rw [Int.toNat_of_nonneg n0], by omega, rfl, ht3⟩
  obtain ⟨n, c3, rfl, nm, rfl, ht3⟩ := hw
  and_intros
  refine ⟨F, t + 3, n, c3, rfl, sx_at hF, ht3, by omega, by omega, fun one c4 ol on oo ht4 => ?_⟩
  rw [sx_set hF]
  have R1 : Row m one := ⟨on, oo, by omega⟩
  and_intros
  refine ⟨F, _, 4, c4, rfl, sx_at hF, ht4, by omega, by omega, fun nw c5 nl nn no ht5 => ?_⟩
  rw [sx_set hF]
  and_intros
  rw [mapW]
  refine lc_fm nw (fun s => Aw.W.d (sgD s)) (fun s => if decide (s ∉ one) = true then some (sgD s) else none) (fun _ => True.intro) (by omega) (fun s hs j Y N hy hn => ?_) ?_
  · and_intros
    refine r_inL (od_sg (no s hs)).sh (od_sgs oo (by omega)).sh ?_
    rw [any_sg]
    and_intros
    by_cases h : s ∈ one
    · rw [decide_eq_true h]
      refine r_nt ?_
      exact ⟨rfl, hn (by simp [h])⟩
    · rw [decide_eq_false h]
      refine r_iteT ?_
      and_intros
      exact ⟨_, rfl, rfl, hy _ (by simp [h])⟩
  rw [fm_if]
  have R2 : Row 4 (nw.filter fun s => decide (s ∉ one)) := ⟨nn.filter _, fun s hs => no s ((List.mem_filter.mp hs).1), Nat.le_trans (List.length_filter_le _ _) nl⟩
  have dj : ∀ s ∈ nw.filter (fun s => decide (s ∉ one)), s ∉ one := fun s hs => by simpa using (List.mem_filter.mp hs).2
  generalize nw.filter (fun s => decide (s ∉ one)) = newer at R2 dj
  and_intros
  refine ⟨_, (one.map sgD).map Aw.W.d, rfl, rfl, ?_⟩
  rw [sx_app, sx_len, show (one.map sgD).map Aw.W.d = sgW one by simp [sgW]]
  with_reducible refine r_agN ?_
  have ht6 : IsTap (t + 700) c5 := ht5.mono (by omega)
  have oth0 : Oth σ ([] ++ [.lst (sgW one)]) (.ref (σ.length + ([] : Sto).length)) one := .inr ⟨0, rfl, rfl⟩
  clear ht5 ht4 ht3 ht1 ht
  generalize [] ++ [Cell.lst (sgW one)] = j0 at oth0
  generalize Aw.W.ref (σ.length + ([] : Sto).length) = w0 at oth0
  with_reducible refine r_seq ?_
  refine cutSt (fun e s => ∃ (c : Cell) (j : Sto) (v6 : Option Aw.W) (w7 : Aw.W) (o : List Sg), e = [some (.ref F), some (.d (.int (m : Nat))), some (.d (.int way)), some (.d (.int (n : Nat))), some (.d (.list (one.map sgD))), some (.d (.list (newer.map sgD))), v6, some w7] ∧ s = Sx σ F c j ∧ IsTap (t + 700) c ∧ Oth σ j w7 o ∧ o.Perm one) ?_ fun e s h => ?_
  · and_intros
    refine r_ite (fun _ => ?_) fun _ => ?_
    · and_intros
      refine r_stpL (.inr rfl) ?_
      rw [if_neg (by decide), ← List.map_reverse]
      and_intros
      exact ⟨c5, j0, _, _, one.reverse, rfl, rfl, ht6, .inl rfl, List.reverse_perm one⟩
    · and_intros
      exact ⟨c5, j0, _, _, one, rfl, rfl, ht6, oth0, .refl _⟩
  clear oth0 ht6 c5 j0 w0 c4 c3 c1
  obtain ⟨c5, j0, v6, w7, o, rfl, rfl, ht6, oth0, pm⟩ := h
  with_reducible refine r_seq ?_
  refine cutSt (fun e s => ∃ (c : Cell) (j : Sto) (v6 : Option Aw.W) (w7 : Aw.W) (o : List Sg), e = [some (.ref F), some (.d (.int (m : Nat))), some (.d (.int way)), some (.d (.int (n : Nat))), some (.d (.list (one.map sgD))), some (.d (.list (newer.map sgD))), v6, some w7] ∧ s = Sx σ F c j ∧ IsTap (t + 760) c ∧ Oth σ j w7 o ∧ o.Perm one) ?_ fun e s h => ?_
  · with_reducible refine r_ifS ?_
    refine cutT (fun _ s' => s' = Sx σ F c5 j0) ?_ fun b s' hb => ?_
    · and_intros
      refine r_ite (fun _ => rfl) fun _ => ?_
      and_intros
      rfl
    subst hb
    refine r_iteB (fun _ => ?_) fun _ => ?_
    · and_intros
      refine ⟨F, _, one, c5, rfl, sx_at hF, ht6, by omega, by have := R1.len; omega, fun l' c' p1 ht' => ?_⟩
      rw [sx_set hF]
      and_intros
      exact ⟨c', j0, _, _, l', rfl, rfl, ht', .inl rfl, p1⟩
    · and_intros
      exact ⟨c5, j0, _, _, o, rfl, rfl, ht6.mono (by omega), oth0, pm⟩
  clear oth0 ht6 c5 j0 pm o v6 w7
  obtain ⟨c5, j0, v6, w7, o, rfl, rfl, ht6, oth0, pm⟩ := h
  with_reducible refine r_seq ?_
  refine cutSt (fun e s => ∃ (c : Cell) (j : Sto) (v6 : Option Aw.W) (w7 : Aw.W) (o : List Sg), e = [some (.ref F), some (.d (.int (m : Nat))), some (.d (.int way)), some (.d (.int (n : Nat))), some (.d (.list (one.map sgD))), some (.d (.list (newer.map sgD))), v6, some w7] ∧ s = Sx σ F c j ∧ IsTap (t + 820) c ∧ Oth σ j w7 o ∧ o.Perm one) ?_ fun e s h => ?_
  · with_reducible refine r_ifS ?_
    refine cutT (fun _ s' => s' = Sx σ F c5 j0) ?_ fun b s' hb => ?_
    · and_intros
      refine r_pures rfl (by show 3 ≤ sizeLine; decide) ?_
      and_intros
      refine r_inT rfl rfl ?_
      and_intros
      rfl
    subst hb
    refine r_iteB (fun _ => ?_) fun _ => ?_
    · and_intros
      refine ⟨F, _, one, c5, rfl, sx_at hF, ht6, by omega, by have := R1.len; omega, fun l' c' p1 ht' => ?_⟩
      rw [sx_set hF]
      and_intros
      exact ⟨c', j0, _, _, l', rfl, rfl, ht', .inl rfl, p1⟩
    · and_intros
      exact ⟨c5, j0, _, _, o, rfl, rfl, ht6.mono (by omega), oth0, pm⟩
  clear oth0 ht6 c5 j0 pm o v6 w7
  obtain ⟨c5, j0, v6, w7, o, rfl, rfl, ht6, oth0, pm⟩ := h
  have R3 : Row m o := R1.perm pm
  have dj2 : ∀ s ∈ newer, s ∉ o := fun s hs h => dj s hs (pm.mem_iff.mp h)
  clear pm
  with_reducible refine r_seq ?_
  refine cutSt (fun e s => ∃ (c : Cell) (j : Sto) (v6 : Option Aw.W) (w7 : Aw.W) (o : List Sg), e = [some (.ref F), some (.d (.int (m : Nat))), some (.d (.int way)), some (.d (.int (n : Nat))), some (.d (.list (one.map sgD))), some (.d (.list (newer.map sgD))), v6, some w7] ∧ s = Sx σ F c j ∧ IsTap (t + 1000) c ∧ Oth σ j w7 o ∧ Row m o) ?_ fun e s h => ?_
  · with_reducible refine r_ifS ?_
    and_intros
    refine r_ite (fun _ => ?_) fun _ => ?_
    · and_intros
      refine r_lcC ?_
      and_intros
      refine r_itO oth0 fun stay hst => ?_
      rw [sx_len]
      have rl := R3.len
      refine lc_run (fun i acc s => ∃ (c : Cell) (l : List Sg), s = Sx σ F c j0 ∧ IsTap (t + 820 + i) c ∧ acc = sgW l ∧ l.Sublist (o.take i)) (fun _ _ _ ⟨c, l, h, _⟩ => by rw [h]; simp) ⟨c5, [], rfl, ht6, rfl, List.nil_sublist _⟩ (fun i w acc s Rest hw h kk => ?_) fun acc s h => ?_
      · obtain ⟨c, l, rfl, ht', rfl, sub⟩ := h
        rw [List.getElem?_map] at hw
        obtain ⟨x, hx, rfl⟩ := Option.map_eq_some_iff.mp hw
        have hi := (List.getElem?_eq_some_iff.mp hx).1
        have ll := sub.length_le
        rw [List.length_take] at ll
        refine ⟨by rw [sx_app]; exact hst _ _, ?_⟩
        rw [sx_app]
        and_intros
        refine r_pick hF ht' (by omega) (by decide) (by decide) fun r c3 r0 r1 ht3 => ?_
        and_intros
        refine r_ite (fun _ => ?_) fun _ => ?_
        · and_intros
          rw [← sx_app]
          refine lc_app (by simp) (small (by simp; omega)) (kk _ _ ⟨c3, l ++ [x], rfl, ht3.mono (by omega), by simp [sgW], ?_⟩)
          rw [take_snoc hx]
          exact sub.append (List.Sublist.refl _)
        · rw [← sx_app]
          refine kk _ _ ⟨c3, l, rfl, ht3.mono (by omega), rfl, ?_⟩
          rw [take_snoc hx]
          exact sub.trans (List.sublist_append_left _ _)
      obtain ⟨c, l, rfl, ht', rfl, sub⟩ := h
      rw [List.length_map] at ht' sub
      rw [List.take_length] at sub
      have nl2 := R2.len
      refine ⟨by rw [sx_app]; exact hst _ _, ?_⟩
      rw [sx_app]
      and_intros
      rw [mapW]
      refine loop_run (fun i e s => ∃ (l' : List Sg) (c' : Cell) (v6 : Option Aw.W), e = [some (.ref F), some (.d (.int (m : Nat))), some (.d (.int way)), some (.d (.int (n : Nat))), some (.d (.list (one.map sgD))), some (.d (.list (newer.map sgD))), v6, some (.ref (σ.length + j0.length))] ∧ s = Sx σ F c' (j0 ++ [.lst (sgW l')]) ∧ IsTap (t + 870 + i) c' ∧ l'.Perm (l ++ newer.take i)) ⟨l, c, _, rfl, rfl, ht'.mono (by omega), by simp⟩ (fun i w e s Rest hw h kk => ?_) fun e s h => ?_
      · obtain ⟨l', c', v6, rfl, rfl, ht'', pm⟩ := h
        rw [List.getElem?_map] at hw
        obtain ⟨x, hx, rfl⟩ := Option.map_eq_some_iff.mp hw
        have hi := (List.getElem?_eq_some_iff.mp hx).1
        have ll := pm.length_eq
        have ll2 := sub.length_le
        rw [List.length_append, List.length_take] at ll
        have cell : ∀ {c : Cell}, (Sx σ F c (j0 ++ [.lst (sgW l')]))[σ.length + j0.length]? = some (.lst (sgW l')) := fun {c} => by rw [sx_j]; simp
        refine ⟨True.intro, ?_⟩
        and_intros
        refine r_tyC (ws := sgW l') cell ?_
        and_intros
        refine r_lenC cell ?_
        and_intros
        rw [List.length_map]
        refine r_pick hF ht'' (by omega) (by omega) (by omega) fun a c3 a0 a1 ht3 => ?_
        and_intros
        refine r_insert (ws := sgW l') cell (small (by rw [List.length_map]; omega)) a0 (by omega) ?_
        rw [sx_sj]
        refine kk _ _ ⟨l'.take a.toNat ++ [x] ++ l'.drop a.toNat, c3, _, rfl, by simp [sgW], ht3.mono (by omega), ?_⟩
        rw [take_snoc hx, ← List.append_assoc]
        refine List.Perm.trans ?_ (List.Perm.append_right [x] pm)
        refine List.Perm.trans (List.Perm.append_right _ List.perm_append_comm) ?_
        rw [List.append_assoc, List.take_append_drop]
        exact List.perm_append_comm
      · obtain ⟨l', c', v6, rfl, rfl, ht'', pm⟩ := h
        rw [List.length_map, List.take_length] at pm
        rw [List.length_map] at ht''
        refine ⟨True.intro, ?_⟩
        and_intros
        refine r_slC (ds := l'.map sgD) (by simp only [dat, sx_j, List.getElem?_append_right (Nat.le_refl _), Nat.sub_self, List.getElem?_cons_zero, pures_sg]; rfl) ?_
        rw [cutL_map, cut_take]
        and_intros
        have Rl : Row 100 l' := by
          refine Row.perm ⟨?_, ?_, ?_⟩ pm
          · rw [List.nodup_append]
            exact ⟨R3.nd.sublist sub, R2.nd, fun a ha b hb e => dj2 b hb (e ▸ sub.subset ha)⟩
          · intro s hs
            rcases List.mem_append.mp hs with h | h
            · exact R3.ok s (sub.subset h)
            · exact R2.ok s h
          · have := sub.length_le
            rw [List.length_append]
            omega
        exact ⟨c', _, _, _, l'.take m, rfl, rfl, ht''.mono (by omega), .inl rfl, ⟨Rl.nd.sublist (List.take_sublist _ _), fun s hs => Rl.ok s (List.mem_of_mem_take hs), by rw [List.length_take]; omega⟩⟩
    · and_intros
      exact ⟨c5, j0, _, _, o, rfl, rfl, ht6.mono (by omega), oth0, R3⟩
  clear oth0 ht6 c5 j0 R3 dj2 o v6 w7
  obtain ⟨c5, j0, v6, w7, o, rfl, rfl, ht6, oth0, R3⟩ := h
  with_reducible refine r_seq ?_
  refine cutSt (fun e s => ∃ (c : Cell) (j : Sto) (v6 : Option Aw.W) (w7 : Aw.W) (o : List Sg), e = [some (.ref F), some (.d (.int (m : Nat))), some (.d (.int way)), some (.d (.int (n : Nat))), some (.d (.list (one.map sgD))), some (.d (.list (newer.map sgD))), v6, some w7] ∧ s = Sx σ F c j ∧ IsTap (t + 1000) c ∧ Oth σ j w7 o ∧ Row m o) ?_ fun e s h => ?_
  · and_intros
    refine r_ite (fun _ => ?_) fun _ => ?_
    · and_intros
      exact ⟨c5, j0, _, _, newer, rfl, rfl, ht6, .inl rfl, ⟨R2.nd, R2.ok, by have := R2.len; omega⟩⟩
    · and_intros
      exact ⟨c5, j0, _, _, o, rfl, rfl, ht6, oth0, R3⟩
  clear oth0 ht6 c5 j0 R3 o v6 w7
  obtain ⟨c5, j0, v6, w7, o, rfl, rfl, ht6, oth0, R3⟩ := h
  with_reducible refine r_seq ?_
  refine cutSt (fun e s => ∃ (c : Cell) (j : Sto) (v2 v3 v5 v6 : Option Aw.W) (w4 w7 : Aw.W) (a b : List Sg), e = [some (.ref F), some (.d (.int (m : Nat))), v2, v3, some w4, v5, v6, some w7] ∧ s = Sx σ F c j ∧ IsTap (t + 2000) c ∧ Oth σ j w4 a ∧ Oth σ j w7 b ∧ Row m a ∧ Row m b) ?_ fun e s h => ?_
  · and_intros
    refine r_pick hF ht6 (by omega) (by decide) (by decide) fun r c6 r0 r1 ht7 => ?_
    and_intros
    refine r_ite (fun _ => ?_) fun _ => ?_
    · show aCons _ _ _ _ _ _
      and_intros
      refine ⟨by decide, _, _, rfl, _, _, rfl, rfl, ?_⟩
      exact ⟨c6, j0, _, _, _, _, w7, _, o, one, rfl, rfl, ht7.mono (by omega), oth0, .inl rfl, R3, R1⟩
    · and_intros
      exact ⟨c6, j0, _, _, _, _, _, w7, one, o, rfl, rfl, ht7.mono (by omega), .inl rfl, oth0, R1, R3⟩
  clear oth0 ht6 c5 j0 R3 o v6 w7
  obtain ⟨c6, j, v2, v3, v5, v6, w4, w7, a, b, rfl, rfl, ht7, oa, ob, Ra, Rb⟩ := h
  and_intros
  refine r_tupO oa ?_
  and_intros
  refine r_tupO ob ?_
  and_intros
  refine r_pures rfl (by show 2 ≤ sizeLine; decide) ?_
  exact key Ra Rb ht7
end Lw

set_option maxHeartbeats 4000000
/-! L56M: levels: how long the longest rising rows are that end somewhere. -/
namespace Lw
open PySem PySem.Spec PyProof.Rows L2 Mw Aw
theorem snoc_ind {α : Type} {P : List α → Prop} (h0 : P []) (hs : ∀ l x, P l → P (l ++ [x])) (l : List α) : P l := by
  rw [← List.reverse_reverse l]
  generalize l.reverse = m
  induction m with
  | nil => exact h0
  | cons x r ih => rw [List.reverse_cons]; exact hs _ _ ih
theorem nil_snoc {α : Type} (l : List α) : l = [] ∨ ∃ ys x, l = ys ++ [x] := by
  induction l using snoc_ind with
  | h0 => exact .inl rfl
  | hs l x _ => exact .inr ⟨l, x, rfl⟩
theorem fold_max_mem : ∀ (r : List Int) (n : Int), r.foldl max n ∈ n :: r
  | [], n => List.mem_cons_self
  | m :: r, n => by
    rw [List.foldl_cons]
    have h := fold_max_mem r (max n m)
    rcases List.mem_cons.mp h with h | h
    · rw [h]
      by_cases e : n ≤ m
      · rw [Int.max_eq_right e]; simp
      · rw [Int.max_eq_left (by omega)]; simp
    · exact List.mem_cons_of_mem _ (List.mem_cons_of_mem _ h)
theorem maxZ_mem {d : Int} : ∀ {l : List Int}, l ≠ [] → maxZ d l ∈ l
  | [], h => absurd rfl h
  | n :: r, _ => fold_max_mem r n
theorem maxZ_or {l : List Int} : l = [] ∧ maxZ 0 l = 0 ∨ maxZ 0 l ∈ l := by
  cases l with
  | nil => exact .inl ⟨rfl, rfl⟩
  | cons n r => exact .inr (maxZ_mem (by simp))
section
variable {α : Type} (R : α → α → Bool)
def lvStep (acc : List (α × Int)) (x : α) : List (α × Int) := acc ++ [(x, 1 + maxZ 0 ((acc.filter fun p => R p.1 x).map (·.2)))]
def lvs (l : List α) : List (α × Int) := l.foldl (lvStep R) []
theorem lvs_snoc (l : List α) (x : α) : lvs R (l ++ [x]) = lvs R l ++ [(x, 1 + maxZ 0 (((lvs R l).filter fun p => R p.1 x).map (·.2)))] := by
  unfold lvs
  rw [List.foldl_append]
  rfl
def top (l : List α) : Int := maxZ 0 ((lvs R l).map (·.2))
theorem lvs_fst (l : List α) : (lvs R l).map (·.1) = l := by
  induction l using snoc_ind with
  | h0 => rfl
  | hs l x ih =>
  rw [lvs_snoc, List.map_append, ih]
  rfl
theorem lvs_pos (l : List α) : ∀ p ∈ lvs R l, 1 ≤ p.2 := by
  induction l using snoc_ind with
  | h0 => intro p hp; cases hp
  | hs l x ih =>
  intro p hp
  rw [lvs_snoc] at hp
  rcases List.mem_append.mp hp with h | h
  · exact ih p h
  · rw [List.mem_singleton.mp h]
    show 1 ≤ 1 + maxZ 0 _
    rcases maxZ_or (l := ((lvs R l).filter fun p => R p.1 x).map (·.2)) with ⟨_, e⟩ | e
    · rw [e]; decide
    · obtain ⟨q, hq, e⟩ := List.mem_map.mp e
      have := ih q (List.mem_filter.mp hq).1
      omega
theorem lvs_ex (tr : ∀ a b c, R a b = true → R b c = true → R a c = true) (l : List α) : ∀ p ∈ lvs R l, ∃ ys, (ys ++ [p.1]).Sublist l ∧ (ys ++ [p.1]).Pairwise (fun a b => R a b = true) ∧ (ys.length : Int) + 1 = p.2 := by
  induction l using snoc_ind with
  | h0 => intro p hp; cases hp
  | hs l x ih =>
  intro p hp
  rw [lvs_snoc] at hp
  rcases List.mem_append.mp hp with h | h
  · obtain ⟨ys, h1, h2, h3⟩ := ih p h
    exact ⟨ys, h1.trans (List.sublist_append_left _ _), h2, h3⟩
  · rw [List.mem_singleton.mp h]
    rcases maxZ_or (l := ((lvs R l).filter fun p => R p.1 x).map (·.2)) with ⟨_, e⟩ | e
    · exact ⟨[], by simp, by simp, by show (0 : Int) + 1 = 1 + maxZ 0 _; rw [e]; rfl⟩
    · obtain ⟨q, hq, e⟩ := List.mem_map.mp e
      obtain ⟨hq1, hq2⟩ := List.mem_filter.mp hq
      obtain ⟨ys, h1, h2, h3⟩ := ih q hq1
      refine ⟨ys ++ [q.1], h1.append (List.Sublist.refl _), ?_, ?_⟩
      · rw [List.pairwise_append]
        refine ⟨h2, List.pairwise_singleton _ _, fun a ha b hb => ?_⟩
        rw [List.mem_singleton.mp hb]
        rcases List.mem_append.mp ha with h | h
        · exact tr _ _ _ ((List.pairwise_append.mp h2).2.2 a h q.1 (List.mem_singleton.mpr rfl)) hq2
        · rw [List.mem_singleton.mp h]; exact hq2
      · show ((ys ++ [q.1]).length : Int) + 1 = 1 + maxZ 0 _
        rw [← e, ← h3, List.length_append]
        simp
        omega
theorem lvs_up (l : List α) : ∀ ys x, (ys ++ [x]).Sublist l → (ys ++ [x]).Pairwise (fun a b => R a b = true) → ∃ k, (x, k) ∈ lvs R l ∧ (ys.length : Int) + 1 ≤ k := by
  induction l using snoc_ind with
  | h0 => intro ys x h _; have := h.length_le; simp at this
  | hs l z ih =>
  intro ys x hs hp
  obtain ⟨l1, l2, e, s1, s2⟩ := List.sublist_append_iff.mp hs
  rw [lvs_snoc]
  have h2 : l2 = [] ∨ l2 = [z] := by
    cases s2 with
    | cons _ h => exact .inl (List.sublist_nil.mp h)
    | cons_cons _ h => exact .inr (by rw [List.sublist_nil.mp h])
  rcases h2 with rfl | rfl
  · rw [List.append_nil] at e
    obtain ⟨k, h1, h3⟩ := ih ys x (e ▸ s1) hp
    exact ⟨k, List.mem_append_left _ h1, h3⟩
  · obtain ⟨rfl, e2⟩ := List.append_inj' e rfl
    cases e2
    refine ⟨_, List.mem_append_right _ (List.mem_singleton.mpr rfl), ?_⟩
    rcases nil_snoc ys with rfl | ⟨ys', y, rfl⟩
    · show (0 : Int) + 1 ≤ 1 + maxZ 0 _
      rcases maxZ_or (l := ((lvs R l).filter fun p => R p.1 z).map (·.2)) with ⟨_, e⟩ | e
      · rw [e]; decide
      · obtain ⟨q, hq, e⟩ := List.mem_map.mp e
        have := lvs_pos R l q (List.mem_filter.mp hq).1
        omega
    · have hpa := List.pairwise_append.mp hp
      obtain ⟨k, h1, h3⟩ := ih ys' y s1 hpa.1
      have hr := hpa.2.2 y (by simp) z (List.mem_singleton.mpr rfl)
      have := maxZ_ge (l := ((lvs R l).filter fun p => R p.1 z).map (·.2)) (x := k) (List.mem_map.mpr ⟨(y, k), List.mem_filter.mpr ⟨h1, hr⟩, rfl⟩)
      rw [List.length_append]
      simp
      omega
theorem top_ex (tr : ∀ a b c, R a b = true → R b c = true → R a c = true) (l : List α) : ∃ c : List α, c.Sublist l ∧ c.Pairwise (fun a b => R a b = true) ∧ (c.length : Int) = top R l := by
  unfold top
  rcases maxZ_or (l := (lvs R l).map (·.2)) with ⟨_, e⟩ | e
  · exact ⟨[], by simp, by simp, by rw [e]; rfl⟩
  · obtain ⟨p, hp, e⟩ := List.mem_map.mp e
    obtain ⟨ys, h1, h2, h3⟩ := lvs_ex R tr l p hp
    exact ⟨_, h1, h2, by rw [← e, ← h3]; simp⟩
theorem top_up (l c : List α) (hs : c.Sublist l) (hp : c.Pairwise (fun a b => R a b = true)) : (c.length : Int) ≤ top R l := by
  rcases nil_snoc c with rfl | ⟨ys, x, rfl⟩
  · show (0 : Int) ≤ maxZ 0 _
    rcases maxZ_or (l := (lvs R l).map (·.2)) with ⟨_, e⟩ | e
    · rw [e]; decide
    · obtain ⟨q, hq, e⟩ := List.mem_map.mp e
      have := lvs_pos R l q hq
      omega
  · obtain ⟨k, h1, h2⟩ := lvs_up R l ys x hs hp
    have := maxZ_ge (l := (lvs R l).map (·.2)) (x := k) (List.mem_map.mpr ⟨_, h1, rfl⟩)
    unfold top
    simp
    omega
theorem top_rev (tr : ∀ a b c, R a b = true → R b c = true → R a c = true) (l : List α) : top (fun a b => R b a) l.reverse = top R l := by
  obtain ⟨c, h1, h2, h3⟩ := top_ex R tr l
  obtain ⟨c', h1', h2', h3'⟩ := top_ex (fun a b => R b a) (fun a b c x y => tr _ _ _ y x) l.reverse
  have a1 := top_up (fun a b => R b a) l.reverse c.reverse (List.reverse_sublist.mpr h1) (List.pairwise_reverse.mpr h2)
  have a2 := top_up R l c'.reverse (by have := List.reverse_sublist.mpr h1'; rwa [List.reverse_reverse] at this) (List.pairwise_reverse.mpr h2')
  rw [List.length_reverse] at a1 a2
  omega
/-- signs of one level -/
theorem lvs_pair (l : List α) : (lvs R l).Pairwise fun p q => R p.1 q.1 = true → p.2 < q.2 := by
  induction l using snoc_ind with
  | h0 => exact List.Pairwise.nil
  | hs l x ih =>
  rw [lvs_snoc, List.pairwise_append]
  refine ⟨ih, List.pairwise_singleton _ _, fun a ha b hb hr => ?_⟩
  rw [List.mem_singleton.mp hb] at hr ⊢
  have := maxZ_ge (l := ((lvs R l).filter fun p => R p.1 x).map (·.2)) (x := a.2) (List.mem_map.mpr ⟨a, List.mem_filter.mpr ⟨ha, hr⟩, rfl⟩)
  show a.2 < 1 + maxZ 0 _
  omega
end
/-- the levels there are, as they come -/
def ksOf {α : Type} (es : List (α × Int)) : List Int := es.foldl (fun ks p => if p.2 ∈ ks then ks else ks ++ [p.2]) []
theorem ks_snoc {α : Type} (es : List (α × Int)) (p : α × Int) : ksOf (es ++ [p]) = if p.2 ∈ ksOf es then ksOf es else ksOf es ++ [p.2] := by
  unfold ksOf
  rw [List.foldl_append]
  rfl
theorem mem_ks {α : Type} (es : List (α × Int)) (k : Int) : k ∈ ksOf es ↔ ∃ p ∈ es, p.2 = k := by
  induction es using snoc_ind with
  | h0 => simp [ksOf]
  | hs es x ih =>
  rw [ks_snoc]
  constructor
  · intro h
    split at h
    · obtain ⟨p, hp, e⟩ := ih.mp h
      exact ⟨p, List.mem_append_left _ hp, e⟩
    · rcases List.mem_append.mp h with h | h
      · obtain ⟨p, hp, e⟩ := ih.mp h
        exact ⟨p, List.mem_append_left _ hp, e⟩
      · exact ⟨x, by simp, (List.mem_singleton.mp h).symm⟩
  · rintro ⟨p, hp, e⟩
    rcases List.mem_append.mp hp with h | h
    · have := ih.mpr ⟨p, h, e⟩
      split
      · exact this
      · exact List.mem_append_left _ this
    · rw [List.mem_singleton.mp h] at e
      subst e
      split
      · assumption
      · simp
theorem ks_nodup {α : Type} (es : List (α × Int)) : (ksOf es).Nodup := by
  induction es using snoc_ind with
  | h0 => simp [ksOf]
  | hs es x ih =>
  rw [ks_snoc]
  split
  · exact ih
  · rename_i h
    rw [List.nodup_append]
    exact ⟨ih, by simp, fun a ha b hb e => h (by rw [List.mem_singleton.mp hb] at e; exact e ▸ ha)⟩
theorem ks_lvs {α : Type} (R : α → α → Bool) (l : List α) : ∃ n : Nat, top R l = n ∧ ksOf (lvs R l) = (List.range n).map (fun i => 1 + ((i : Nat) : Int)) := by
  induction l using snoc_ind with
  | h0 => exact ⟨0, rfl, rfl⟩
  | hs l x ih =>
  obtain ⟨n, h1, h2⟩ := ih
  have mx : ∀ p ∈ lvs R l, p.2 ≤ n := fun p hp => by
    rw [← h1]
    exact maxZ_ge (List.mem_map.mpr ⟨p, hp, rfl⟩)
  have hk : 0 ≤ maxZ 0 (((lvs R l).filter fun p => R p.1 x).map (·.2)) ∧ maxZ 0 (((lvs R l).filter fun p => R p.1 x).map (·.2)) ≤ n := by
    refine maxZ_le (by omega) fun k hk => ?_
    obtain ⟨q, hq, e⟩ := List.mem_map.mp hk
    have := mx q (List.mem_filter.mp hq).1
    have := lvs_pos R l q (List.mem_filter.mp hq).1
    omega
  have tp : top R (l ++ [x]) = maxZ 0 ((lvs R l).map (·.2) ++ [1 + maxZ 0 (((lvs R l).filter fun p => R p.1 x).map (·.2))]) := by
    unfold top
    rw [lvs_snoc, List.map_append]
    rfl
  rw [lvs_snoc, ks_snoc, tp]
  dsimp only
  generalize maxZ 0 (((lvs R l).filter fun p => R p.1 x).map (·.2)) = k at hk
  have up : ∀ z ∈ (lvs R l).map (·.2) ++ [1 + k], z ≤ max (n : Int) (1 + k) := fun z hz => by
    rcases List.mem_append.mp hz with h | h
    · obtain ⟨q, hq, rfl⟩ := List.mem_map.mp h
      have := mx q hq
      omega
    · rw [List.mem_singleton.mp h]; omega
  have t1 := maxZ_ge (l := (lvs R l).map (·.2) ++ [1 + k]) (x := 1 + k) (by simp)
  have t2 := up _ (maxZ_mem (d := 0) (l := (lvs R l).map (·.2) ++ [1 + k]) (by simp))
  have t3 : (n : Int) ≤ maxZ 0 ((lvs R l).map (·.2) ++ [1 + k]) := by
    unfold top at h1
    rcases maxZ_or (l := (lvs R l).map (·.2)) with ⟨_, e⟩ | e
    · rw [e] at h1; omega
    · rw [← h1]
      exact maxZ_ge (List.mem_append_left _ e)
  by_cases hin : k < n
  · refine ⟨n, by omega, ?_⟩
    rw [if_pos, h2]
    rw [h2, List.mem_map]
    exact ⟨k.toNat, by simp; omega, by omega⟩
  · refine ⟨n + 1, by omega, ?_⟩
    rw [if_neg, h2, List.range_succ, List.map_append]
    · congr 1
      simp
      omega
    · rw [h2, List.mem_map]
      rintro ⟨i, hi, e⟩
      have := List.mem_range.mp hi
      omega
/-- all of one level, level by level -/
def rowsOf {α : Type} (es : List (α × Int)) : List (List α) := (ksOf es).map fun k => (es.filter fun p => p.2 = k).map (·.1)
theorem part_perm {β : Type} (f : β → Int) : ∀ (ks : List Int) (es : List β), ks.Nodup → (∀ e ∈ es, f e ∈ ks) → (ks.flatMap fun k => es.filter fun e => f e = k).Perm es
  | [], es, _, h => by
    cases es with
    | nil => exact .refl _
    | cons e r => exact absurd (h e (by simp)) (by simp)
  | k :: ks, es, nd, h => by
    obtain ⟨n1, n2⟩ := List.nodup_cons.mp nd
    rw [List.flatMap_cons]
    have ih := part_perm f ks (es.filter fun e => !decide (f e = k)) n2 (fun e he => by
      obtain ⟨h1, h2⟩ := List.mem_filter.mp he
      rcases List.mem_cons.mp (h e h1) with h3 | h3
      · simp [h3] at h2
      · exact h3)
    have e1 : (ks.flatMap fun k' => (es.filter fun e => !decide (f e = k)).filter fun e => f e = k') = ks.flatMap fun k' => es.filter fun e => f e = k' := by
      rw [List.flatMap_def, List.flatMap_def]
      congr 1
      refine List.map_congr_left fun k' hk' => ?_
      rw [List.filter_filter]
      refine List.filter_congr fun e _ => ?_
      by_cases h4 : f e = k'
      · have : f e ≠ k := fun h5 => n1 (by rw [← h5, h4]; exact hk')
        simp [h4, this]
        intro h6
        exact this (h4.trans h6)
      · simp [h4]
    rw [e1] at ih
    exact (List.Perm.append_left _ ih).trans (List.filter_append_perm _ es)
theorem rows_perm {α : Type} (es : List (α × Int)) : (rowsOf es).flatten.Perm (es.map (·.1)) := by
  have h := (part_perm (fun p : α × Int => p.2) (ksOf es) es (ks_nodup es) fun e he => (mem_ks es _).mpr ⟨e, he, rfl⟩).map (·.1)
  rw [List.map_flatMap] at h
  exact h
end Lw

set_option maxHeartbeats 4000000
/-! L56G: k55, k56: the places of common signs, their levels, the falling rows. -/
namespace Lw
open PySem PySem.Spec PyProof.Rows L2 Mw Aw
theorem sgD_inj {a b : Sg} (h : sgD a = sgD b) : a = b := by
  obtain ⟨i, x, j⟩ := a
  obtain ⟨k, y, l⟩ := b
  simp only [sgD, PyData.tuple.injEq, List.cons.injEq, PyData.int.injEq, PyData.str.injEq, and_true] at h
  obtain ⟨rfl, rfl, rfl⟩ := h
  rfl
theorem get_in {κ β : Type} {f : κ → PyData} (inj : ∀ {a b}, f a = f b → a = b) (g : κ → β) (n : κ) : ∀ l : List κ, n ∈ l → dget (l.map fun s => (f s, g s)) (f n) = some (g n)
  | [], h => by cases h
  | a :: l, h => by
    rw [List.map_cons]
    by_cases e : f a = f n
    · rw [dget_pos e, inj e]
    · rw [dget_neg e]
      refine get_in inj g n l ?_
      rcases List.mem_cons.mp h with h | h
      · exact absurd (by rw [h]) e
      · exact h
theorem get_out {κ β : Type} {f : κ → PyData} (inj : ∀ {a b}, f a = f b → a = b) (g : κ → β) (n : κ) : ∀ l : List κ, n ∉ l → dget (l.map fun s => (f s, g s)) (f n) = none
  | [], _ => rfl
  | a :: l, h => by
    rw [List.map_cons]
    have e : ¬ f a = f n := fun e => h (by rw [inj e]; simp)
    rw [dget_neg e]
    exact get_out inj g n l fun z => h (by simp [z])
theorem get_sg {β : Type} (g : Sg → β) (n : Sg) (l : List Sg) : dget (l.map fun s => (sgD s, g s)) (sgD n) = if n ∈ l then some (g n) else none := by
  split
  · exact get_in sgD_inj g n l (by assumption)
  · exact get_out sgD_inj g n l (by assumption)
theorem kc_sg {α : Type} {f : α → Sg} {g : α → Aw.W} (l : List α) (m : Sg) : keyC (l.map fun s => (sgD (f s), g s)) (sgD m) := .inr ⟨rfl, fun p hp => by
  obtain ⟨s, _, rfl⟩ := List.mem_map.mp hp
  rfl⟩
theorem frz_map {α : Type} {n : Nat} {σ : Sto} (f g : α → PyData) : ∀ l : List α, FrzPs n σ (l.map fun s => (f s, .d (g s))) (l.map fun s => (f s, g s))
  | [] => .nil
  | a :: l => .cons (.d _) (frz_map f g l)
theorem told_dc {α : Type} {σ j : Sto} {i : Nat} {f g : α → PyData} {l : List α} {Q : QK} {t : Bool} (h : j[i]? = some (.dct t (l.map fun s => (f s, .d (g s))))) (q : Q (.d (.dict (l.map fun s => (f s, g s)))) σ) : Told σ.length σ (σ ++ j) (.ref (σ.length + i)) Q :=
  ⟨.app σ _, .inl ⟨_, .dct (Nat.le_add_right _ _) (by rw [px_j]; exact h) (frz_map f g l), by simpa using q⟩⟩
theorem idxS_at {l : List Sg} (nd : l.Nodup) {i : Nat} {x : Sg} (h : l[i]? = some x) : l.idxOf x = i := by
  have hm := List.mem_of_getElem? h
  have hl := List.idxOf_lt_length_of_mem hm
  have e : l[l.idxOf x]? = some x := by rw [List.getElem?_eq_getElem hl, List.getElem_idxOf]
  exact ((List.getElem?_inj hl nd).mp (e.trans h.symm))
theorem not_take {l : List Sg} (nd : l.Nodup) {i : Nat} {x : Sg} (h : l[i]? = some x) : x ∉ l.take i := fun z => by
  obtain ⟨k, hk⟩ := List.getElem?_of_mem z
  have hl := (List.getElem?_eq_some_iff.mp hk).1
  rw [List.length_take] at hl
  rw [List.getElem?_take_of_lt (by omega)] at hk
  have := idxS_at nd hk
  have := idxS_at nd h
  omega
/-- the common signs, as they stand in the one -/
abbrev com (one other : List Sg) : List Sg := one.filter fun s => decide (s ∈ other)
/-- whether one stands ahead of another -/
abbrev Rq (other : List Sg) (a b : Sg) : Bool := decide (other.idxOf a < other.idxOf b)
abbrev plV (one other : List Sg) (s : Sg) : PyData := .tuple [.int (one.idxOf s : Nat), .int (other.idxOf s : Nat)]
abbrev plcD (one other : List Sg) : PyData := .dict ((com one other).map fun s => (sgD s, plV one other s))
def f56Cpl : AF := fun ws σ Q _ => ∃ one other, ws = [.d (.tuple (one.map sgD)), .d (.tuple (other.map sgD))] ∧ Row 60 one ∧ Row 60 other ∧ Q (.d (plcD one other)) σ
instance : MoF f56Cpl := ⟨fun k ⟨a, b, h1, h2, h3, q⟩ => ⟨a, b, h1, h2, h3, k _ _ q⟩⟩
theorem cpl56_ok : ∀ ws σ Q X, f56Cpl ws σ Q X → aFn 5 p56Cpl ws σ (fun w σ' => Told σ.length σ σ' w Q) X := by
  rintro ws σ Q X ⟨one, other, rfl, R1, R2, q⟩
  generalize hQ : (fun w σ' => Told σ.length σ σ' w Q) = Q'
  have key : ∀ {j : Sto} {i : Nat}, j[i]? = some (.dct true ((com one other).map fun s => (sgD s, .d (plV one other s)))) → Q' (.ref (σ.length + i)) (σ ++ j) := fun {j i} h => by rw [← hQ]; exact told_dc h q
  clear hQ q
  have l1 := R1.len
  have l2 := R2.len
  and_intros
  with_reducible refine r_dcT ?_
  refine r_en ?_
  and_intros
  refine ⟨_, rfl, ?_⟩
  show dcGo _ _ _ _ _ _ _ _ _ (enL (other.map sgD)) _
  refine dc_run (fun i acc s => s = σ ∧ acc = (other.take i).map fun s => (sgD s, .d (.int (other.idxOf s : Nat)))) (fun i acc s h => by rw [h.1]) ⟨rfl, rfl⟩ (fun i w acc s Rest hw h k => ?_) fun acc s h => ?_
  · obtain ⟨rfl, rfl⟩ := h
    rw [enL_get, List.getElem?_map] at hw
    obtain ⟨d, hd, rfl⟩ := Option.map_eq_some_iff.mp hw
    obtain ⟨x, hx, rfl⟩ := Option.map_eq_some_iff.mp hd
    have hi := (List.getElem?_eq_some_iff.mp hx).1
    refine ⟨True.intro, ?_⟩
    refine r_agT2 ?_
    and_intros
    refine ⟨sgD x, _, rfl, rfl, px_j0, small (by rw [List.length_map, List.length_take]; omega), ?_⟩
    rw [px_s0, dput_new (by rw [get_sg (fun s => Aw.W.d (.int (other.idxOf s : Nat))), if_neg (not_take R2.nd hx)])]
    refine k _ _ ⟨rfl, ?_⟩
    rw [take_snoc hx, List.map_append]
    simp only [List.map_cons, List.map_nil, idxS_at R2.nd hx]
  obtain ⟨rfl, rfl⟩ := h
  rw [enFrom_len, List.length_map, List.take_length]
  refine ⟨True.intro, ?_⟩
  have pr : ∀ {j}, prsOf (s ++ ([.dct true (other.map fun s => (sgD s, .d (.int (other.idxOf s : Nat))))] ++ j)) (.ref s.length) = some (other.map fun s => (sgD s, Aw.W.d (.int (other.idxOf s : Nat)))) := fun {j} => by simp only [prsOf, px_j0]; rfl
  and_intros
  with_reducible refine r_dcT ?_
  refine r_en ?_
  and_intros
  refine ⟨_, rfl, ?_⟩
  show dcGo _ _ _ _ _ _ _ _ _ (enL (one.map sgD)) _
  refine dc_run (fun i acc t => t = s ++ [.dct true (other.map fun s => (sgD s, .d (.int (other.idxOf s : Nat))))] ∧ acc = (com (one.take i) other).map fun s => (sgD s, .d (plV one other s))) (fun i acc s h => by rw [h.1]) ⟨rfl, rfl⟩ (fun i w acc s' Rest hw h k => ?_) fun acc s' h => ?_
  · obtain ⟨rfl, rfl⟩ := h
    rw [enL_get, List.getElem?_map] at hw
    obtain ⟨d, hd, rfl⟩ := Option.map_eq_some_iff.mp hw
    obtain ⟨x, hx, rfl⟩ := Option.map_eq_some_iff.mp hd
    have hi := (List.getElem?_eq_some_iff.mp hx).1
    have lf : (com (one.take i) other).length ≤ 60 := Nat.le_trans (List.length_filter_le _ _) (by rw [List.length_take]; omega)
    have sn : com (one.take (i + 1)) other = if x ∈ other then com (one.take i) other ++ [x] else com (one.take i) other := by
      unfold com
      rw [take_snoc hx, List.filter_append]
      by_cases h : x ∈ other
      · simp [h]
      · simp [h]
    refine ⟨True.intro, ?_⟩
    rw [List.append_assoc]
    refine r_agT2 ?_
    and_intros
    refine r_inD pr (kc_sg (f := fun s => s) other x) ?_
    rw [get_sg (fun s => Aw.W.d (.int (other.idxOf s : Nat)))]
    and_intros
    by_cases h : x ∈ other
    · rw [if_pos h] at sn
      rw [if_pos h]
      refine r_iteT ?_
      and_intros
      refine r_ixD pr (kc_sg (f := fun s => s) other x) (by rw [get_sg (fun s => Aw.W.d (.int (other.idxOf s : Nat))), if_pos h]) ?_
      and_intros
      refine r_pures rfl (by show 2 ≤ sizeLine; decide) ?_
      refine ⟨sgD x, (com (one.take i) other).map fun s => (sgD s, .d (plV one other s)), rfl, rfl, by rw [List.length_append, px_j]; rfl, small (by rw [List.length_map]; omega), ?_⟩
      have ng : dget ((com (one.take i) other).map fun s => (sgD s, Aw.W.d (plV one other s))) (sgD x) = none := by
        rw [get_sg (fun s => Aw.W.d (plV one other s)), if_neg (fun z => not_take R1.nd hx (List.mem_filter.mp z).1)]
      rw [dput_new ng, List.length_append, px_s]
      show Rest (s ++ ([_] ++ [_]))
      rw [← List.append_assoc]
      refine k _ _ ⟨rfl, ?_⟩
      rw [sn, List.map_append]
      simp only [List.map_cons, List.map_nil, plV, idxS_at R1.nd hx]
    · rw [if_neg h] at sn
      rw [if_neg h]
      refine r_iteF ?_
      rw [← List.append_assoc]
      exact k _ _ ⟨rfl, by rw [sn]⟩
  obtain ⟨rfl, rfl⟩ := h
  rw [enFrom_len, List.length_map, List.take_length]
  refine ⟨True.intro, ?_⟩
  rw [List.append_assoc, List.length_append]
  exact key rfl
end Lw

set_option maxHeartbeats 4000000
/-! L56H: k55, k56: levels, falling rows, as the program tells them. -/
namespace Lw
open PySem PySem.Spec PyProof.Rows L2 Mw Aw
theorem r_itDc {R : List Aw.W → (Sto → Prop) → Sto → Prop} {σ : Sto} {ds : List (PyData × PyData)} (h : R (ds.map fun p => .d p.1) (fun _ => True) σ) : itW σ R (.d (.dict ds)) := h
theorem r_itK {R : List Aw.W → (Sto → Prop) → Sto → Prop} {σ : Sto} {i : Nat} {t : Bool} {kvs : List (PyData × Aw.W)} (h : σ[i]? = some (.lck t kvs)) (q : R (kvs.map fun p => .d p.1) (fun σ' => σ'[i]? = some (.lck t kvs)) σ) : itW σ R (.ref i) := .inr ⟨t, kvs, h, q⟩
abbrev lvW (es : List (Sg × Int)) : List (PyData × Aw.W) := es.map fun p => (sgD p.1, .d (.int p.2))
abbrev lvD (es : List (Sg × Int)) : PyData := .dict (es.map fun p => (sgD p.1, .int p.2))
theorem lvW_in {es : List (Sg × Int)} (nd : (es.map (·.1)).Nodup) {p : Sg × Int} (h : p ∈ es) : dget (lvW es) (sgD p.1) = some (.d (.int p.2)) := by
  induction es with
  | nil => cases h
  | cons a r ih =>
    rw [List.map_cons] at nd
    obtain ⟨n1, n2⟩ := List.nodup_cons.mp nd
    show dget ((sgD a.1, Aw.W.d (.int a.2)) :: lvW r) _ = _
    rcases List.mem_cons.mp h with e | e
    · rw [e, dget_pos rfl]
    · rw [dget_neg (fun z => n1 (by rw [sgD_inj z]; exact List.mem_map.mpr ⟨p, e, rfl⟩))]
      exact ih n2 e
theorem lvW_out {es : List (Sg × Int)} {x : Sg} (h : x ∉ es.map (·.1)) : dget (lvW es) (sgD x) = none := by
  induction es with
  | nil => rfl
  | cons a r ih =>
    rw [List.map_cons] at h
    show dget ((sgD a.1, Aw.W.d (.int a.2)) :: lvW r) _ = _
    rw [dget_neg (fun z => h (by rw [sgD_inj z]; simp))]
    exact ih fun z => h (by simp [z])
theorem com_nd {one other : List Sg} (h : one.Nodup) : (com one other).Nodup := h.filter _
theorem com_len (one other : List Sg) : (com one other).length ≤ one.length := List.length_filter_le _ _
theorem lvs_len (R : Sg → Sg → Bool) (l : List Sg) : (lvs R l).length = l.length := by
  have := congrArg List.length (lvs_fst R l)
  rwa [List.length_map] at this
theorem pl_prs {one other : List Sg} {σ : Sto} : prsOf σ (.d (plcD one other)) = some ((com one other).map fun s => (sgD s, .d (plV one other s))) := by
  show some _ = some _
  rw [List.map_map]
  rfl
def f56Lev : AF := fun ws σ Q _ => ∃ one other, ws = [.d (.tuple (one.map sgD)), .d (.tuple (other.map sgD))] ∧ Row 60 one ∧ Row 60 other ∧ Q (.d (lvD (lvs (Rq other) (com one other)))) σ
instance : MoF f56Lev := ⟨fun k ⟨a, b, h1, h2, h3, q⟩ => ⟨a, b, h1, h2, h3, k _ _ q⟩⟩
theorem lev56_ok : ∀ ws σ Q X, f56Lev ws σ Q X → aFn 7 (p56Lev f56Cpl) ws σ (fun w σ' => Told σ.length σ σ' w Q) X := by
  rintro ws σ Q X ⟨one, other, rfl, R1, R2, q⟩
  generalize hQ : (fun w σ' => Told σ.length σ σ' w Q) = Q'
  have key : Q' (.ref σ.length) (σ ++ [.dct true (lvW (lvs (Rq other) (com one other)))]) := by rw [← hQ]; exact told_dc (i := 0) rfl q
  clear hQ q
  have l1 := R1.len
  have l2 := R2.len
  have cl := com_len one other
  have cn := com_nd (other := other) R1.nd
  and_intros
  refine ⟨one, other, rfl, R1, R2, ?_⟩
  and_intros
  refine r_itDc ?_
  rw [List.map_map]
  refine loop_run (fun i e s => ∃ v4 v5, e = [some (.d (.tuple (one.map sgD))), some (.d (.tuple (other.map sgD))), some (.d (plcD one other)), some (.ref σ.length), v4, v5, none] ∧ s = σ ++ [.dct true (lvW (lvs (Rq other) ((com one other).take i)))]) ⟨none, none, rfl, rfl⟩ (fun i w e s Rest hw h kk => ?_) fun e s h => ?_
  · obtain ⟨v4, v5, rfl, rfl⟩ := h
    rw [List.getElem?_map] at hw
    obtain ⟨x, hx, rfl⟩ := Option.map_eq_some_iff.mp hw
    have hi := (List.getElem?_eq_some_iff.mp hx).1
    have hxc := List.mem_of_getElem? hx
    have sn : lvs (Rq other) ((com one other).take (i + 1)) = lvs (Rq other) ((com one other).take i) ++ [(x, 1 + maxZ 0 (((lvs (Rq other) ((com one other).take i)).filter fun p => Rq other p.1 x).map (·.2)))] := by
      rw [take_snoc hx, lvs_snoc]
    have ef := lvs_fst (Rq other) ((com one other).take i)
    have el := lvs_len (Rq other) ((com one other).take i)
    rw [List.length_take] at el
    have nin := not_take cn hx
    rw [← ef] at nin
    have end_ : (((com one other).take i)).Nodup := cn.sublist (List.take_sublist _ _)
    rw [← ef] at end_
    have emem : ∀ p ∈ lvs (Rq other) ((com one other).take i), p.1 ∈ com one other := fun p hp => by
      have : p.1 ∈ (lvs (Rq other) ((com one other).take i)).map (·.1) := List.mem_map.mpr ⟨p, hp, rfl⟩
      rw [ef] at this
      exact List.mem_of_mem_take this
    generalize lvs (Rq other) ((com one other).take i) = es at sn ef el nin end_ emem
    refine ⟨True.intro, ?_⟩
    and_intros
    refine r_lockS (i := σ.length) px_j0 ?_
    rw [px_s0]
    and_intros
    refine r_itK px_j0 ?_
    rw [List.map_map]
    refine lc_fm es (fun p => Aw.W.d (sgD p.1)) (fun p => if Rq other p.1 x = true then some (.int p.2) else none) (fun j => by rw [List.append_assoc]; exact px_j0) (by omega) (fun p hp j Y N hy hn => ?_) ?_
    · have pc := emem p hp
      and_intros
      refine r_ixD pl_prs (kc_sg (f := fun s => s) _ _) (by rw [get_sg (fun s => Aw.W.d (plV one other s)), if_pos pc]) ?_
      and_intros
      refine r_ixT (x := .int (other.idxOf p.1 : Nat)) rfl ?_
      and_intros
      refine r_ixD pl_prs (kc_sg (f := fun s => s) _ _) (by rw [get_sg (fun s => Aw.W.d (plV one other s)), if_pos hxc]) ?_
      and_intros
      refine r_ixT (x := .int (other.idxOf x : Nat)) rfl ?_
      and_intros
      refine r_ite (fun hlt => ?_) fun hlt => ?_
      · and_intros
        refine r_ixD (kvs := lvW es) (by simp only [prsOf, List.append_assoc, px_j0]; rfl) (kc_sg (f := fun p : Sg × Int => p.1) es p.1) (lvW_in end_ hp) ?_
        exact ⟨_, rfl, rfl, hy _ (by rw [if_pos (decide_eq_true (by omega))])⟩
      · exact ⟨rfl, hn (if_neg (by simpa [Rq] using hlt))⟩
    rw [fm_if]
    and_intros
    refine ⟨px_j0, ?_⟩
    rw [px_s0]
    and_intros
    refine r_maxD ?_
    and_intros
    rw [show (es.filter fun p => Rq other p.1 x).map (fun p => PyData.int p.2) = ((es.filter fun p => Rq other p.1 x).map (·.2)).map PyData.int by rw [List.map_map]; rfl]
    refine r_mx ?_
    and_intros
    refine r_put px_j0 rfl (small (by rw [List.length_map]; omega)) ?_
    rw [dput_new (lvW_out nin)]
    refine kk _ _ ⟨_, _, rfl, ?_⟩
    rw [px_s0, sn, show ∀ a b : List (Sg × Int), lvW (a ++ b) = lvW a ++ lvW b from fun a b => List.map_append]
    rfl
  · obtain ⟨v4, v5, rfl, rfl⟩ := h
    rw [List.length_map, List.take_length]
    refine ⟨True.intro, ?_⟩
    and_intros
    exact key
/-! ### rows -/
abbrev rowAt (es : List (Sg × Int)) (k : Int) : List Sg := (es.filter fun p => p.2 = k).map (·.1)
abbrev rowW (es : List (Sg × Int)) : List (PyData × Aw.W) := (ksOf es).map fun k => (PyData.int k, .d (.tuple ((rowAt es k).map sgD)))
theorem int_inj {a b : Int} (h : PyData.int a = PyData.int b) : a = b := by cases h; rfl
theorem row_get (es : List (Sg × Int)) (k : Int) : (dget (rowW es) (.int k)).getD (.d (.tuple [])) = .d (.tuple ((rowAt es k).map sgD)) := by
  by_cases h : k ∈ ksOf es
  · rw [get_in int_inj (fun k => Aw.W.d (.tuple ((rowAt es k).map sgD))) k _ h]
    rfl
  · rw [get_out int_inj (fun k => Aw.W.d (.tuple ((rowAt es k).map sgD))) k _ h]
    have : rowAt es k = [] := by
      unfold rowAt
      rw [List.filter_eq_nil_iff.mpr]
      · rfl
      · intro p hp
        simpa using fun z => h ((mem_ks es k).mpr ⟨p, hp, z⟩)
    rw [this]
    rfl
theorem row_at (es : List (Sg × Int)) (x : Sg) (k k' : Int) : rowAt (es ++ [(x, k)]) k' = if k = k' then rowAt es k' ++ [x] else rowAt es k' := by
  unfold rowAt
  rw [List.filter_append]
  by_cases h : k = k'
  · simp [h]
  · simp [h]
theorem row_put (es : List (Sg × Int)) (x : Sg) (k : Int) : dput (rowW es) (.int k) (.d (.tuple ((rowAt es k ++ [x]).map sgD))) = rowW (es ++ [(x, k)]) := by
  show _ = (ksOf (es ++ [(x, k)])).map _
  rw [ks_snoc]
  dsimp only
  by_cases h : k ∈ ksOf es
  · rw [dput_old (get_in int_inj (fun k => Aw.W.d (.tuple ((rowAt es k).map sgD))) k _ h), if_pos h, List.map_map]
    refine List.map_congr_left fun k' _ => ?_
    dsimp only [Function.comp]
    by_cases e : k = k'
    · subst e
      rw [if_pos rfl, row_at, if_pos rfl]
    · rw [if_neg (fun z => e (int_inj z).symm), row_at, if_neg e]
  · rw [dput_new (get_out int_inj (fun k => Aw.W.d (.tuple ((rowAt es k).map sgD))) k _ h), if_neg h, List.map_append (l₁ := ksOf es)]
    congr 1
    · refine List.map_congr_left fun k' hk' => ?_
      rw [row_at, if_neg (fun z : k = k' => h (z ▸ hk'))]
    · simp only [List.map_cons, List.map_nil]
      rw [row_at, if_pos rfl]
abbrev fallD (rs : List (List Sg)) : PyData := .tuple (rs.map fun r => .tuple (r.map sgD))
def f56Fall : AF := fun ws σ Q _ => ∃ one other, ws = [.d (.tuple (one.map sgD)), .d (.tuple (other.map sgD))] ∧ Row 60 one ∧ Row 60 other ∧ Q (.d (fallD (rowsOf (lvs (Rq other) (com one other))))) σ
instance : MoF f56Fall := ⟨fun k ⟨a, b, h1, h2, h3, q⟩ => ⟨a, b, h1, h2, h3, k _ _ q⟩⟩
theorem fall56_ok : ∀ ws σ Q X, f56Fall ws σ Q X → aFn 5 (p56Fall f56Lev) ws σ (fun w σ' => Told σ.length σ σ' w Q) X := by
  rintro ws σ Q X ⟨one, other, rfl, R1, R2, q⟩
  generalize hQ : (fun w σ' => Told σ.length σ σ' w Q) = Q'
  have key : ∀ {j : Sto}, Q' (.d (fallD (rowsOf (lvs (Rq other) (com one other))))) (σ ++ j) := fun {j} => by rw [← hQ]; exact told_d q
  clear hQ q
  have l1 := R1.len
  have cl := com_len one other
  have el := lvs_len (Rq other) (com one other)
  have end_ := com_nd (other := other) R1.nd
  rw [← lvs_fst (Rq other) (com one other)] at end_
  and_intros
  refine ⟨one, other, rfl, R1, R2, ?_⟩
  generalize lvs (Rq other) (com one other) = es at el end_ key
  have pr : ∀ {σ : Sto}, prsOf σ (.d (lvD es)) = some (lvW es) := fun {σ} => by
    show some _ = some _
    rw [List.map_map]
    rfl
  and_intros
  refine r_itDc ?_
  rw [List.map_map]
  have kl : ∀ i, (ksOf (es.take i)).length ≤ es.length := fun i => by
    have : ∀ l : List (Sg × Int), (ksOf l).length ≤ l.length := fun l => by
      induction l using snoc_ind with
      | h0 => simp [ksOf]
      | hs l x ih =>
        rw [ks_snoc]
        split
        · rw [List.length_append]; omega
        · rw [List.length_append, List.length_append]; simp; omega
    have := this (es.take i)
    rw [List.length_take] at this
    omega
  refine loop_run (fun i e s => ∃ v4, e = [some (.d (.tuple (one.map sgD))), some (.d (.tuple (other.map sgD))), some (.ref σ.length), some (.d (lvD es)), v4] ∧ s = σ ++ [.dct false (rowW (es.take i))]) ⟨none, rfl, rfl⟩ (fun i w e s Rest hw h kk => ?_) fun e s h => ?_
  · obtain ⟨v4, rfl, rfl⟩ := h
    rw [List.getElem?_map] at hw
    obtain ⟨p, hx, rfl⟩ := Option.map_eq_some_iff.mp hw
    have hi := (List.getElem?_eq_some_iff.mp hx).1
    have hp := List.mem_of_getElem? hx
    have rl : (rowAt (es.take i) p.2).length ≤ 60 := by
      have h1 := List.length_filter_le (fun q : Sg × Int => decide (q.2 = p.2)) (es.take i)
      rw [List.length_take] at h1
      unfold rowAt
      rw [List.length_map]
      omega
    have kl2 := kl i
    refine ⟨True.intro, ?_⟩
    and_intros
    refine r_get2 ?_
    and_intros
    refine ⟨by simp only [prsOf, px_j0]; rfl, ?_⟩
    and_intros
    refine r_ixD pr (kc_sg (f := fun p : Sg × Int => p.1) es p.1) (lvW_in end_ hp) ?_
    and_intros
    refine r_pures rfl (by show 0 ≤ sizeLine; decide) ?_
    refine r_gt px_j0 rfl ?_
    rw [row_get]
    and_intros
    refine r_pures rfl (by show 1 ≤ sizeLine; decide) ?_
    and_intros
    refine r_addT (Nat.le_of_lt (small (by rw [List.length_map]; simp only [List.length_cons, List.length_nil]; omega))) ?_
    and_intros
    refine r_ixD pr (kc_sg (f := fun p : Sg × Int => p.1) es p.1) (lvW_in end_ hp) ?_
    refine r_put px_j0 rfl (small (by rw [List.length_map]; omega)) ?_
    refine kk _ _ ⟨_, rfl, ?_⟩
    rw [px_s0, take_snoc hx, ← row_put, List.map_append]
    rfl
  · obtain ⟨v4, rfl, rfl⟩ := h
    rw [List.length_map, List.take_length]
    refine ⟨True.intro, ?_⟩
    and_intros
    refine ⟨.ref σ.length, rfl, σ.length, _, (rowsOf es).map fun r => PyData.tuple (r.map sgD), rfl, px_j0, ?_, key⟩
    rw [List.map_map, rowsOf, List.map_map]
    rw [show (ksOf es).map (((fun p : PyData × Aw.W => p.2)) ∘ fun k => (PyData.int k, Aw.W.d (.tuple ((rowAt es k).map sgD)))) = ((ksOf es).map ((fun r => PyData.tuple (r.map sgD)) ∘ fun k => (es.filter fun p => p.2 = k).map (·.1))).map Aw.W.d by rw [List.map_map]; rfl]
    exact pures_map _
end Lw

set_option maxHeartbeats 4000000
/-! L56R: signs shown alike are one. -/
namespace Lw
open PySem PySem.Spec PyProof.Rows L2 Mw Aw Builtin Builtin.Str
def digs (i : Int) : List Nat := ((toString i : String) : Str).cps.toList
def valD (l : List Nat) : Nat := l.foldl (fun n c => n * 10 + (c - 48)) 0
theorem dig_all : ∀ i : Fin 101, valD (digs (i.val : Int)) = i.val ∧ (digs (i.val : Int)).all (fun c => decide (48 ≤ c) && decide (c ≤ 57)) = true := by decide +kernel
theorem dig_val {i : Int} (h0 : 0 ≤ i) (h1 : i ≤ 100) : (valD (digs i) : Int) = i ∧ ∀ c ∈ digs i, c ≠ 44 ∧ c ≠ 41 := by
  have h := dig_all ⟨i.toNat, by omega⟩
  have e : ((i.toNat : Nat) : Int) = i := Int.toNat_of_nonneg h0
  simp only [e] at h
  refine ⟨by rw [h.1]; exact e, fun c hc => ?_⟩
  have := List.all_eq_true.mp h.2 c hc
  simp only [Bool.and_eq_true, decide_eq_true_eq] at this
  omega
theorem char_low : ∀ c : Nat, 97 ≤ c → c ≤ 122 → reprChar 39 c = [c] := by
  have h : ∀ c : Fin 26, reprChar 39 (97 + c.val) = [97 + c.val] := by decide +kernel
  intro c h1 h2
  have := h ⟨c - 97, by omega⟩
  rwa [show 97 + (c - 97) = c by omega] at this
theorem quote_low {x : Str} (h : ∀ c ∈ x.cps.toList, 97 ≤ c ∧ c ≤ 122) : reprQuote x = 39 := by
  unfold reprQuote
  have : x.cps.contains 39 = false := by
    rw [← Array.contains_toList]
    rw [Bool.eq_false_iff]
    intro hc
    have := h 39 (List.contains_iff_mem.mp hc)
    omega
  rw [this]
  rfl
theorem repr_low {x : Str} (h : ∀ c ∈ x.cps.toList, 97 ≤ c ∧ c ≤ 122) : (reprText x).cps.toList = 39 :: x.cps.toList ++ [39] := by
  have key : ∀ (l : List Nat) (acc : Array Nat), (∀ c ∈ l, 97 ≤ c ∧ c ≤ 122) → (l.foldl (fun out c => out ++ (reprChar 39 c).toArray) acc).toList = acc.toList ++ l := by
    intro l
    induction l with
    | nil => intro acc _; simp
    | cons a l ih =>
      intro acc hl
      have ha := hl a (by simp)
      rw [List.foldl_cons, ih _ (fun c hc => hl c (List.mem_cons_of_mem _ hc)), char_low a ha.1 ha.2]
      simp
  unfold reprText
  rw [quote_low h]
  show ((x.cps.foldl (fun out c => out ++ (reprChar 39 c).toArray) #[39]).push 39).toList = _
  rw [Array.toList_push, ← Array.foldl_toList, key _ _ h]
  rfl
theorem sg_text {s : Sg} (h : SgOk s) : (sgD s).shown.cps.toList = 40 :: (digs s.1 ++ 44 :: (32 :: 39 :: (s.2.1.cps.toList ++ 39 :: (44 :: 32 :: (digs s.2.2 ++ [41]))))) := by
  obtain ⟨i, x, j⟩ := s
  have hx : (reprText x).cps.toList = 39 :: x.cps.toList ++ [39] := repr_low h.wrd.low
  have e : (sgD (i, x, j)).shown = (Str.ofString "(") ++ (((toString i : String) : Str) ++ Str.ofString ", " ++ (reprText x ++ Str.ofString ", " ++ ((toString j : String) : Str))) ++ Str.ofString ")" := by
    simp only [sgD, PyData.shown, PyData.shownAll]
    rfl
  rw [e]
  have e1 : (Str.ofString "(").cps.toList = [40] := by decide +kernel
  have e2 : (Str.ofString ")").cps.toList = [41] := by decide +kernel
  have e3 : (Str.ofString ", ").cps.toList = [44, 32] := by decide +kernel
  simp only [cl_append, e1, e2, e3, hx, digs]
  simp
theorem split_at {a b : List Nat} {r s : List Nat} {k : Nat} (ha : k ∉ a) (hb : k ∉ b) (h : a ++ k :: r = b ++ k :: s) : a = b ∧ r = s := by
  induction a generalizing b with
  | nil =>
    cases b with
    | nil => exact ⟨rfl, by simpa using h⟩
    | cons y b =>
      have : k = y := by simpa using (List.cons.inj h).1
      exact absurd (by simp [this]) hb
  | cons x a ih =>
    cases b with
    | nil =>
      have : x = k := by simpa using (List.cons.inj h).1
      exact absurd (by simp [this]) ha
    | cons y b =>
      obtain ⟨e1, e2⟩ := List.cons.inj h
      obtain ⟨e3, e4⟩ := ih (fun z => ha (by simp [z])) (fun z => hb (by simp [z])) e2
      exact ⟨by rw [e1, e3], e4⟩
theorem shown_inj {a b : Sg} (ha : SgOk a) (hb : SgOk b) (h : (sgD a).shown = (sgD b).shown) : a = b := by
  have e : (sgD a).shown.cps.toList = (sgD b).shown.cps.toList := by rw [h]
  rw [sg_text ha, sg_text hb] at e
  have e := (List.cons.inj e).2
  obtain ⟨va1, na1⟩ := dig_val ha.lo ha.hi
  obtain ⟨vb1, nb1⟩ := dig_val hb.lo hb.hi
  obtain ⟨va2, na2⟩ := dig_val ha.lo2 ha.hi2
  obtain ⟨vb2, nb2⟩ := dig_val hb.lo2 hb.hi2
  obtain ⟨h1, e⟩ := split_at (fun z => (na1 _ z).1 rfl) (fun z => (nb1 _ z).1 rfl) e
  have e := (List.cons.inj (List.cons.inj e).2).2
  obtain ⟨h2, e⟩ := split_at (fun z => by have := ha.wrd.low _ z; omega) (fun z => by have := hb.wrd.low _ z; omega) e
  have e := (List.cons.inj (List.cons.inj e).2).2
  obtain ⟨h3, _⟩ := split_at (fun z => (na2 _ z).2 rfl) (fun z => (nb2 _ z).2 rfl) e
  obtain ⟨i, ⟨x⟩, j⟩ := a
  obtain ⟨k, ⟨y⟩, l⟩ := b
  dsimp only at h1 h2 h3 va1 vb1 va2 vb2
  rw [h1] at va1
  rw [h3] at va2
  have e1 : i = k := va1.symm.trans vb1
  have e2 : j = l := va2.symm.trans vb2
  have e3 : x = y := Array.toList_inj.mp h2
  rw [e1, e2, e3]
end Lw

set_option maxHeartbeats 4000000
/-! L56I: k56: the law's own reckoning from the end. -/
namespace Lw
open PySem PySem.Spec PyProof.Rows L2 Mw Aw
theorem fst_sg {l : List Sg} (nd : l.Nodup) {x : Sg} (h : x ∈ l) : Fst (l.map sgD) (sgD x) (l.idxOf x) := by
  have hl := List.idxOf_lt_length_of_mem h
  refine ⟨⟨sgD x, by rw [List.getElem?_map, List.getElem?_eq_getElem hl, List.getElem_idxOf]; rfl, by rw [eqv_sg]; simp⟩, fun m z hm hz => ?_⟩
  rw [List.getElem?_map] at hz
  obtain ⟨y, hy, rfl⟩ := Option.map_eq_some_iff.mp hz
  rw [eqv_sg]
  refine decide_eq_false fun e => ?_
  have := idxS_at nd hy
  rw [e] at this
  omega
theorem row_sg {l : List Sg} {x : Sg} (h : x ∈ l) : isRow (l.map sgD) = true := by
  cases l with
  | nil => cases h
  | cons a r => rfl
/-- how many rise in both at the most -/
abbrev most (one other : List Sg) : Int := top (Rq other) (com one other)
theorem rq_trans (other : List Sg) : ∀ a b c, Rq other a b = true → Rq other b c = true → Rq other a c = true := fun a b c h1 h2 => by
  have := of_decide_eq_true h1
  have := of_decide_eq_true h2
  exact decide_eq_true (by omega)
def f56Long : AF := fun ws σ Q _ => ∃ one other, ws = [.d (.tuple (one.map sgD)), .d (.tuple (other.map sgD))] ∧ Row 60 one ∧ Row 60 other ∧ Q (.d (.int (most one other))) σ
instance : MoF f56Long := ⟨fun k ⟨a, b, h1, h2, h3, q⟩ => ⟨a, b, h1, h2, h3, k _ _ q⟩⟩
theorem long56_ok : ∀ ws σ Q X, f56Long ws σ Q X → aFn 8 p56Long ws σ (fun w σ' => Told σ.length σ σ' w Q) X := by
  rintro ws σ Q X ⟨one, other, rfl, R1, R2, q⟩
  generalize hQ : (fun w σ' => Told σ.length σ σ' w Q) = Q'
  have key : ∀ {j : Sto}, Q' (.d (.int (most one other))) (σ ++ j) := fun {j} => by rw [← hQ]; exact told_d q
  clear hQ q
  have l1 := R1.len
  have l2 := R2.len
  have R3 : Row 60 one.reverse := R1.perm (List.reverse_perm one)
  have er : most one other = top (fun a b => Rq other b a) (com one.reverse other) := by
    rw [show com one.reverse other = (com one other).reverse from List.filter_reverse ..]
    exact (top_rev (Rq other) (rq_trans other) (com one other)).symm
  have ok2 := R2.ok
  and_intros
  refine ⟨Nat.zero_le _, ?_⟩
  and_intros
  refine r_revT ?_
  and_intros
  refine ⟨_, rfl, ?_⟩
  rw [← List.map_reverse]
  and_intros
  rw [mapW]
  refine loop_run (fun i e s => ∃ v3 v4 v5, e = [some (.d (.tuple (one.map sgD))), some (.d (.tuple (other.map sgD))), some (.ref σ.length), v3, v4, v5, none, none] ∧ s = σ ++ [.lst ((lvs (fun a b => Rq other b a) (com (one.reverse.take i) other)).map fun p => .d (.tuple [.int p.2, .int (other.idxOf p.1 : Nat)]))]) ⟨none, none, none, rfl, rfl⟩ (fun i w e s Rest hw h kk => ?_) fun e s h => ?_
  · obtain ⟨v3, v4, v5, rfl, rfl⟩ := h
    rw [List.getElem?_map] at hw
    obtain ⟨x, hx, rfl⟩ := Option.map_eq_some_iff.mp hw
    have hi := (List.getElem?_eq_some_iff.mp hx).1
    have xok := R3.ok x (List.mem_of_getElem? hx)
    have sn : com (one.reverse.take (i + 1)) other = if x ∈ other then com (one.reverse.take i) other ++ [x] else com (one.reverse.take i) other := by
      unfold com
      rw [take_snoc hx, List.filter_append]
      by_cases h : x ∈ other
      · simp [h]
      · simp [h]
    refine ⟨True.intro, ?_⟩
    and_intros
    refine r_inT (od_sg xok).sh (od_sgs ok2 (by omega)).sh ?_
    rw [any_sg]
    and_intros
    refine r_ite (fun hin => ?_) fun hin => ?_
    · have el := lvs_len (fun a b => Rq other b a) (com (one.reverse.take i) other)
      have cl := com_len (one.reverse.take i) other
      have rl := R3.len
      rw [List.length_take] at cl
      rw [if_pos hin] at sn
      have ee := lvs_snoc (fun a b => Rq other b a) (com (one.reverse.take i) other) x
      rw [← sn] at ee
      generalize lvs (fun a b => Rq other b a) (com (one.reverse.take i) other) = es at el ee
      and_intros
      refine r_bmT ?_
      and_intros
      refine ⟨⟨_, rfl, row_sg hin⟩, ?_⟩
      and_intros
      refine r_idx (od_sgs ok2 (by omega)).sh (od_sg xok).sh (fst_sg R2.nd hin) ?_
      and_intros
      refine r_itC px_j0 ?_
      refine lc_fm es (fun p => Aw.W.d (.tuple [.int p.2, .int (other.idxOf p.1 : Nat)])) (fun p => if Rq other x p.1 = true then some (.int p.2) else none) (fun j => by rw [List.append_assoc]; exact px_j0) (by omega) (fun p hp j Y N hy hn => ?_) ?_
      · refine r_agT2 ?_
        and_intros
        refine r_ite (fun hlt => ?_) fun hlt => ?_
        · and_intros
          exact ⟨_, rfl, rfl, hy _ (by rw [if_pos (decide_eq_true (by omega))])⟩
        · exact ⟨rfl, hn (if_neg (by simp only [Rq, decide_eq_true_eq]; omega))⟩
      rw [fm_if]
      and_intros
      refine r_tyC px_j0 ?_
      and_intros
      refine r_maxD ?_
      and_intros
      rw [show (es.filter fun p => Rq other x p.1).map (fun p => PyData.int p.2) = ((es.filter fun p => Rq other x p.1).map (·.2)).map PyData.int by rw [List.map_map]; rfl]
      refine r_mx ?_
      and_intros
      refine r_pures rfl (by show 2 ≤ sizeLine; decide) ?_
      and_intros
      refine r_append px_j0 (small (by rw [List.length_map]; omega)) ?_
      refine kk _ _ ⟨_, _, _, rfl, ?_⟩
      rw [px_s0, ee, List.map_append]
      rfl
    · and_intros
      rw [if_neg hin] at sn
      exact kk _ _ ⟨_, _, _, rfl, by rw [sn]⟩
  · obtain ⟨v3, v4, v5, rfl, rfl⟩ := h
    rw [List.length_map, List.take_length]
    refine ⟨True.intro, ?_⟩
    have el := lvs_len (fun a b => Rq other b a) (com one.reverse other)
    have cl := com_len one.reverse other
    have rl := R3.len
    have et : maxZ 0 ((lvs (fun a b => Rq other b a) (com one.reverse other)).map (·.2)) = most one other := er.symm
    generalize lvs (fun a b => Rq other b a) (com one.reverse other) = es at el et
    and_intros
    refine r_maxD ?_
    and_intros
    refine r_itC px_j0 ?_
    refine lc_fm es (fun p => Aw.W.d (.tuple [.int p.2, .int (other.idxOf p.1 : Nat)])) (fun p => some (.int p.2)) (fun j => by rw [List.append_assoc]; exact px_j0) (by omega) (fun p hp j Y N hy hn => ?_) ?_
    · refine r_agT2 ?_
      and_intros
      exact ⟨_, rfl, rfl, hy _ rfl⟩
    rw [List.filterMap_eq_map', show es.map (fun p => PyData.int p.2) = (es.map (·.2)).map PyData.int by rw [List.map_map]; rfl]
    and_intros
    refine r_mx ?_
    rw [et]
    exact key
end Lw

set_option maxHeartbeats 4000000
/-! MwV: the signs of what is shown. -/
namespace Mw
open PySem PySem.Spec PyProof.Rows L2 Builtin Builtin.Str
def lowS (x : Str) : Prop := ∀ c ∈ x.cps.toList, c < 128
theorem lowS.app {x y : Str} (h1 : lowS x) (h2 : lowS y) : lowS (x ++ y) := fun c hc => by
  have hc : c ∈ (x.cps ++ y.cps).toList := hc
  rw [Array.toList_append] at hc
  exact (List.mem_append.mp hc).elim (h1 c) (h2 c)
theorem low_lit {x : Str} (h : (x.cps.toList.all fun c => decide (c < 128)) = true) : lowS x := fun c hc => of_decide_eq_true (List.all_eq_true.mp h c hc)
theorem low_join : ∀ {ts : List Str}, (∀ t ∈ ts, lowS t) → lowS (Str.join ", " ts)
  | [], _ => low_lit (by decide +kernel)
  | [x], h => h x (by simp)
  | x :: y :: r, h => by
    show lowS (x ++ Str.ofString ", " ++ Str.join ", " (y :: r))
    exact ((h x (by simp)).app (low_lit (by decide +kernel))).app (low_join fun t ht => h t (List.mem_cons_of_mem _ ht))
theorem low_list {ts : List Str} (h : ∀ t ∈ ts, lowS t) : lowS (listText ts) := by
  rw [listText_eq_join]
  exact ((low_lit (by decide +kernel)).app (low_join h)).app (low_lit (by decide +kernel))
theorem low_tup {ts : List Str} (h : ∀ t ∈ ts, lowS t) : lowS (tupleText ts) := by
  unfold tupleText
  refine ((low_lit (by decide +kernel)).app (low_join h)).app ?_
  split <;> exact low_lit (by decide +kernel)
theorem low_char : ∀ c : Nat, c < 128 → ∀ q : Nat, q = 34 ∨ q = 39 → ((reprChar q c).all fun k => decide (k < 128)) = true := by
  have h34 : ∀ c : Fin 128, ((reprChar 34 c.val).all fun k => decide (k < 128)) = true := by decide +kernel
  have h39 : ∀ c : Fin 128, ((reprChar 39 c.val).all fun k => decide (k < 128)) = true := by decide +kernel
  rintro c hc q (rfl | rfl)
  · exact h34 ⟨c, hc⟩
  · exact h39 ⟨c, hc⟩
theorem quote_is (x : Str) : reprQuote x = 34 ∨ reprQuote x = 39 := by
  unfold reprQuote
  split <;> simp
theorem low_repr {x : Str} (h : lowS x) : lowS (reprText x) := by
  have hq := quote_is x
  have hq' : reprQuote x < 128 := by rcases hq with e | e <;> omega
  have key : ∀ (l : List Nat) (acc : Array Nat), (∀ c ∈ l, c < 128) → (∀ c ∈ acc.toList, c < 128) → ∀ c ∈ (l.foldl (fun out c => out ++ (reprChar (reprQuote x) c).toArray) acc).toList, c < 128 := by
    intro l
    induction l with
    | nil => intro acc _ ha; exact ha
    | cons a l ih =>
      intro acc hl ha
      refine ih _ (fun c hc => hl c (List.mem_cons_of_mem _ hc)) fun c hc => ?_
      rw [Array.toList_append] at hc
      rcases List.mem_append.mp hc with h | h
      · exact ha c h
      · exact of_decide_eq_true (List.all_eq_true.mp (low_char a (hl a (by simp)) _ hq) c h)
  intro c hc
  unfold reprText at hc
  have hc : c ∈ ((x.cps.foldl (fun out c => out ++ (reprChar (reprQuote x) c).toArray) #[reprQuote x]).push (reprQuote x)).toList := hc
  rw [Array.toList_push, ← Array.foldl_toList] at hc
  rcases List.mem_append.mp hc with h' | h'
  · exact key x.cps.toList _ h (fun c hc => by
      have : c = reprQuote x := by simpa using hc
      rw [this]; exact hq') c h'
  · rw [List.mem_singleton.mp h']; exact hq'
theorem low_int (i : Int) : lowS (PyData.int i).shown := fun c hc => by
  by_cases h : c < 128
  · exact h
  · exact absurd hc (shown_int_free' ⟨by omega, by omega⟩ i)
mutual
theorem low_shown : ∀ {d : PyData}, fine d = true → lowS d.shown
  | .none, _ => low_lit (by simp only [PyData.shown]; decide +kernel)
  | .bool true, _ => low_lit (by simp only [PyData.shown]; decide +kernel)
  | .bool false, _ => low_lit (by simp only [PyData.shown]; decide +kernel)
  | .int i, _ => low_int i
  | .str x, h => by
    simp only [PyData.shown]
    refine low_repr (low_lit ?_)
    simpa [fine] using h
  | .list xs, h => by
    simp only [PyData.shown]
    exact low_list (low_shownAll (by simpa [fine] using h))
  | .tuple xs, h => by
    simp only [PyData.shown]
    exact low_tup (low_shownAll (by simpa [fine] using h))
  | .dict _, h => by simp [fine] at h
theorem low_shownAll : ∀ {xs : List PyData}, fineAll xs = true → ∀ t ∈ PyData.shownAll xs, lowS t
  | [], _, t, ht => by cases ht
  | x :: xs, h, t, ht => by
    have h' : fine x = true ∧ fineAll xs = true := by simpa [fineAll] using h
    rcases List.mem_cons.mp ht with e | e
    · rw [e]; exact low_shown h'.1
    · exact low_shownAll h'.2 t e
end
theorem strs_shaped {l : List Str} (h : ∀ x ∈ l, lowS x) : SeqAt.shaped (.list (l.map .str)) = true := by
  have h1 : PyData.canLayAll0 (l.map .str) = true ∧ PyData.depthAll (l.map PyData.str) ≤ 0 := by
    induction l with
    | nil => exact ⟨rfl, by simp [PyData.depthAll]⟩
    | cons a l ih =>
      obtain ⟨i1, i2⟩ := ih fun x hx => h x (List.mem_cons_of_mem _ hx)
      refine ⟨?_, by simp only [List.map_cons, PyData.depthAll, PyData.depth]; omega⟩
      simp only [List.map_cons, PyData.canLayAll0, PyData.canLay0, i1, Bool.and_true]
      exact strOk_of (List.all_eq_true.mpr fun c hc => decide_eq_true (h a (by simp) c hc))
  show (PyData.canLay0 (.list (l.map .str)) && decide (PyData.depth (.list (l.map .str)) ≤ 64)) = true
  rw [Bool.and_eq_true]
  exact ⟨by simp only [PyData.canLay0]; exact h1.1, decide_eq_true (by simp only [PyData.depth]; omega)⟩
end Mw

set_option maxHeartbeats 4000000
/-! L56J: k56: the law's look at falling rows. -/
namespace Lw
open PySem PySem.Spec PyProof.Rows L2 Mw Aw
/-! ### texts in their order -/
def leS (a b : Str) : Bool := !PySem.W.dataLt (.str b) (.str a)
theorem leS_eq (a b : Str) : leS a b = lexLe a.cps.toList b.cps.toList := by
  unfold leS
  rw [PySem.W.dataLt_str, lexLe_eq]
theorem srtS_sorted (l : List Str) : (srtS l).Pairwise fun a b => leS a b = true := by
  have h := List.pairwise_mergeSort (le := PySem.W.dataLe false PyData.str) (fun a b c h1 h2 => by
    have h1 : leS a b = true := h1
    have h2 : leS b c = true := h2
    show leS a c = true
    rw [leS_eq] at h1 h2 ⊢
    exact lexLe_trans h1 h2) (fun a b => by
    show (leS a b || leS b a) = true
    rw [leS_eq, leS_eq, lexLe_eq, lexLe_eq]
    by_cases h2 : b.cps.toList < a.cps.toList
    · have : ¬ a.cps.toList < b.cps.toList := fun z => List.lt_irrefl _ (List.lt_trans z h2)
      simp [this]
    · simp [h2]) l
  exact h
theorem srtS_perm {a b : List Str} (p : a.Perm b) : srtS a = srtS b := by
  refine List.Perm.eq_of_pairwise (fun x y _ _ h1 h2 => ?_) (srtS_sorted a) (srtS_sorted b) (((List.mergeSort_perm a _).trans p).trans (List.mergeSort_perm b _).symm)
  rw [leS_eq] at h1 h2
  have := lexLe_anti h1 h2
  obtain ⟨x⟩ := x
  obtain ⟨y⟩ := y
  have : x = y := Array.toList_inj.mp this
  rw [this]
/-! ### signs shown -/
abbrev tx (s : Sg) : Str := (sgD s).shown
abbrev txD (s : Sg) : PyData := .str (tx s)
theorem tx_asc {s : Sg} (h : SgOk s) : Asc 16000000 (tx s) := ⟨(od_sg h).shw.z, low_shown (od_sg h).f⟩
theorem sh_txs {l : List Sg} (h : ∀ s ∈ l, SgOk s) : SeqAt.shaped (.tuple (l.map txD)) = true := by
  have : SeqAt.shaped (.tuple ((l.map tx).map PyData.str)) = true := shaped_strs (n := 16000000) fun z hz => by
    obtain ⟨s, hs, rfl⟩ := List.mem_map.mp hz
    exact tx_asc (h s hs)
  rwa [List.map_map] at this
theorem sh_tx {s : Sg} (h : SgOk s) : SeqAt.shaped (txD s) = true := by
  have h1 := sh_txs (l := [s]) (fun x hx => by rw [List.mem_singleton.mp hx]; exact h)
  have h2 : (PyData.canLay0 (.tuple [txD s]) && decide (PyData.depth (.tuple [txD s]) ≤ 64)) = true := h1
  show (PyData.canLay0 (txD s) && decide (PyData.depth (txD s) ≤ 64)) = true
  simp only [PyData.canLay0, PyData.canLayAll0, PyData.depth, Bool.and_eq_true, Bool.and_true] at h2 ⊢
  exact ⟨h2.1, by simp⟩
theorem eqv_tx {a b : Sg} (ha : SgOk a) (hb : SgOk b) : PyData.eqv (txD a) (txD b) = decide (a = b) := by
  have : PyData.eqv (txD a) (txD b) = decide (tx a = tx b) := by simp [PyData.eqv]; rfl
  rw [this]
  by_cases h : a = b
  · rw [h, decide_eq_true rfl, decide_eq_true rfl]
  · rw [decide_eq_false h, decide_eq_false fun z => h (shown_inj ha hb z)]
theorem any_tx {l : List Sg} (h : ∀ s ∈ l, SgOk s) {x : Sg} (hx : SgOk x) : ((l.map txD).any fun z => PyData.eqv z (txD x)) = decide (x ∈ l) := by
  induction l with
  | nil => rfl
  | cons a r ih =>
    rw [List.map_cons, List.any_cons, ih fun s hs => h s (by simp [hs]), eqv_tx (h a (by simp)) hx]
    by_cases e : a = x
    · simp [e]
    · simp [e, Ne.symm e]
theorem fst_tx {l : List Sg} (h : ∀ s ∈ l, SgOk s) (nd : l.Nodup) {x : Sg} (hx : x ∈ l) : Fst (l.map txD) (txD x) (l.idxOf x) := by
  have hl := List.idxOf_lt_length_of_mem hx
  refine ⟨⟨txD x, by rw [List.getElem?_map, List.getElem?_eq_getElem hl, List.getElem_idxOf]; rfl, by rw [eqv_tx (h x hx) (h x hx)]; simp⟩, fun m z hm hz => ?_⟩
  rw [List.getElem?_map] at hz
  obtain ⟨y, hy, rfl⟩ := Option.map_eq_some_iff.mp hz
  rw [eqv_tx (h y (List.mem_of_getElem? hy)) (h x hx)]
  refine decide_eq_false fun e => ?_
  have := idxS_at nd hy
  rw [e] at this
  omega
theorem r_r2 {fr : AA} {e : Ev} {σ : Sto} {R : List Aw.W → (Sto → Prop) → Sto → Prop} {X : XQ} (h : fr e σ (fun ws σ1 => ∃ i j : Int, ws = [.d (.int i), .d (.int j)] ∧ (-(2 ^ 62) ≤ i ∧ i < 2 ^ 62 ∧ -(2 ^ 62) ≤ j ∧ j < 2 ^ 62) ∧ R (rngL i (j - i).toNat) (fun _ => True) σ1) X) : aR2 fr e σ R X := h
theorem idx_sub {one r : List Sg} (nd : one.Nodup) (h : r.Sublist one) : r.Pairwise fun a b => one.idxOf a < one.idxOf b := by
  refine List.Pairwise.sublist h ?_
  rw [List.pairwise_iff_getElem]
  intro i j hi hj hij
  rw [idxS_at nd (List.getElem?_eq_getElem hi), idxS_at nd (List.getElem?_eq_getElem hj)]
  exact hij
theorem next_of {α : Type} {P : α → α → Prop} {r : List α} (h : r.Pairwise P) {k : Nat} {a b : α} (ha : r[k]? = some a) (hb : r[k + 1]? = some b) : P a b := by
  obtain ⟨h1, rfl⟩ := List.getElem?_eq_some_iff.mp ha
  obtain ⟨h2, rfl⟩ := List.getElem?_eq_some_iff.mp hb
  exact List.pairwise_iff_getElem.mp h k (k + 1) h1 h2 (by omega)
structure FallOk (one other : List Sg) (rs : List (List Sg)) : Prop where
  len : (rs.length : Int) = most one other
  ne : ∀ r ∈ rs, r ≠ []
  sub : ∀ r ∈ rs, r.Sublist (com one other)
  fal : ∀ r ∈ rs, r.Pairwise fun a b => other.idxOf b < other.idxOf a
  all : rs.flatten.Perm (com one other)
def f56Isf : AF := fun ws σ Q _ => ∃ one other rs, ws = [.d (.tuple (one.map sgD)), .d (.tuple (other.map sgD)), .d (fallD rs)] ∧ Row 60 one ∧ Row 60 other ∧ FallOk one other rs ∧ Q (.d (.bool true)) σ
instance : MoF f56Isf := ⟨fun k ⟨a, b, c, h1, h2, h3, h4, q⟩ => ⟨a, b, c, h1, h2, h3, h4, k _ _ q⟩⟩
abbrev txW (l : List Sg) : List Aw.W := l.map fun s => .d (txD s)
theorem isf56_ok : ∀ ws σ Q X, f56Isf ws σ Q X → aFn 12 (p56Isf f56Long) ws σ (fun w σ' => Told σ.length σ σ' w Q) X := by
  rintro ws σ Q X ⟨one, other, rs, rfl, R1, R2, Fo, q⟩
  generalize hQ : (fun w σ' => Told σ.length σ σ' w Q) = Q'
  have key : ∀ {j : Sto}, Q' (.d (.bool true)) (σ ++ j) := fun {j} => by rw [← hQ]; exact told_d q
  clear hQ q
  have l1 := R1.len
  have l2 := R2.len
  have ok1 := R1.ok
  have ok2 := R2.ok
  have fl := Fo.all.length_eq
  have cl := com_len one other
  have rsl : rs.length ≤ 60 := by
    have h1 : rs.length ≤ rs.flatten.length := by
      have : ∀ l : List (List Sg), (∀ r ∈ l, r ≠ []) → l.length ≤ l.flatten.length := fun l => by
        induction l with
        | nil => intro _; simp
        | cons a r ih =>
          intro h
          have h2 := ih fun x hx => h x (by simp [hx])
          have h3 := List.length_pos_iff.mpr (h a (by simp))
          rw [List.flatten_cons, List.length_append, List.length_cons]
          omega
      exact this rs Fo.ne
    omega
  and_intros
  refine r_isiV (d := fallD rs) rfl (by nofun) (b := true) rfl ?_
  and_intros
  refine r_nt ?_
  and_intros
  refine ⟨one, other, rfl, R1, R2, ?_⟩
  and_intros
  rw [List.length_map]
  refine r_iteN (fun h => absurd Fo.len h) fun _ => ?_
  and_intros
  rw [mapW]
  refine lc_fm one (fun s => Aw.W.d (sgD s)) (fun s => some (txD s)) (fun _ => True.intro) (by omega) (fun s hs j Y N hy hn => ?_) ?_
  · and_intros
    refine r_repr (od_sg (ok1 s hs)).shw ?_
    exact ⟨_, rfl, rfl, hy _ rfl⟩
  rw [List.filterMap_eq_map']
  and_intros
  rw [mapW]
  refine lc_fm other (fun s => Aw.W.d (sgD s)) (fun s => some (txD s)) (fun _ => True.intro) (by omega) (fun s hs j Y N hy hn => ?_) ?_
  · and_intros
    refine r_repr (od_sg (ok2 s hs)).shw ?_
    exact ⟨_, rfl, rfl, hy _ rfl⟩
  rw [List.filterMap_eq_map']
  and_intros
  refine r_pures rfl (by show 2 ≤ sizeLine; decide) ?_
  refine r_agT2 ?_
  and_intros
  refine ⟨Nat.zero_le _, ?_⟩
  and_intros
  rw [mapW]
  refine loop_run (fun i e s => ∃ v5 v7 v8 v10 j, e = [some (.d (.tuple (one.map sgD))), some (.d (.tuple (other.map sgD))), some (.d (fallD rs)), some (.d (.list (one.map txD))), some (.d (.list (other.map txD))), v5, some (.ref σ.length), v7, v8, none, v10, none] ∧ s = σ ++ .lst (txW (rs.take i).flatten) :: j) ⟨none, none, none, none, [], rfl, rfl⟩ (fun i w e s Rest hw h kk => ?_) fun e s h => ?_
  · obtain ⟨v5, v7, v8, v10, j, rfl, rfl⟩ := h
    rw [List.getElem?_map] at hw
    obtain ⟨r, hr, rfl⟩ := Option.map_eq_some_iff.mp hw
    have hi := (List.getElem?_eq_some_iff.mp hr).1
    have rm := List.mem_of_getElem? hr
    have rn := Fo.ne r rm
    have rsub := Fo.sub r rm
    have rfal := Fo.fal r rm
    have rone : r.Sublist one := rsub.trans List.filter_sublist
    have rok : ∀ s ∈ r, SgOk s := fun s hs => ok1 s (rone.subset hs)
    have roth : ∀ s ∈ r, s ∈ other := fun s hs => of_decide_eq_true (List.mem_filter.mp (rsub.subset hs)).2
    have rris := idx_sub R1.nd rone
    have rl := rsub.length_le
    have tl : ((rs.take i).flatten).length ≤ 60 := by
      have : ((rs.take i).flatten).length ≤ rs.flatten.length := by
        conv => rhs; rw [← List.take_append_drop i rs]
        rw [List.flatten_append, List.length_append]
        omega
      omega
    refine ⟨True.intro, ?_⟩
    and_intros
    refine r_isiV (d := .tuple (r.map sgD)) rfl (by nofun) (b := true) rfl ?_
    and_intros
    refine r_nt ?_
    and_intros
    rw [List.length_map]
    refine r_ite (fun h => absurd (List.length_eq_zero_iff.mp (by omega)) rn) fun _ => ?_
    and_intros
    refine r_lcC ?_
    and_intros
    rw [mapW]
    refine lc_run (fun i' acc s => s = σ ++ .lst (txW (rs.take i).flatten) :: j ∧ acc = txW (r.take i')) (fun _ _ _ h => by rw [h.1]) ⟨rfl, rfl⟩ (fun i' w acc s Rest' hw h kk' => ?_) fun acc s h => ?_
    · obtain ⟨rfl, rfl⟩ := h
      rw [List.getElem?_map] at hw
      obtain ⟨x, hx, rfl⟩ := Option.map_eq_some_iff.mp hw
      refine ⟨True.intro, ?_⟩
      and_intros
      refine r_repr (od_sg (rok x (List.mem_of_getElem? hx))).shw ?_
      refine lc_app rfl (small (by rw [List.length_map, List.length_take]; omega)) (kk' _ _ ⟨rfl, ?_⟩)
      rw [take_snoc hx]
      simp [txW]
    obtain ⟨rfl, rfl⟩ := h
    rw [List.length_map, List.take_length]
    refine ⟨True.intro, ?_⟩
    rw [List.append_assoc, List.length_append, List.cons_append, List.length_cons]
    have c6 : ∀ {k : Sto}, (σ ++ (Cell.lst (txW (rs.take i).flatten) :: (j ++ [.lst (txW r)]) ++ k))[σ.length]? = some (.lst (txW (rs.take i).flatten)) := fun {k} => by rw [px_j0]; rfl
    have c8 : ∀ {k : Sto}, (σ ++ (Cell.lst (txW (rs.take i).flatten) :: (j ++ [.lst (txW r)]) ++ k))[σ.length + (j.length + 1)]? = some (.lst (txW r)) := fun {k} => by rw [px_j]; simp
    and_intros
    have c8' := c8 (k := [])
    have c6' := c6 (k := [])
    rw [List.append_nil] at c8' c6'
    refine r_itC c8' ?_
    refine lc_fm r (fun s => Aw.W.d (txD s)) (fun s => none) (fun k => by rw [List.append_assoc]; exact c8) (by omega) (fun s hs k Y N hy hn => ?_) ?_
    · and_intros
      refine r_inL (sh_tx (rok s hs)) (sh_txs ok1) ?_
      rw [any_tx ok1 (rok s hs), decide_eq_true (rone.subset hs)]
      and_intros
      refine r_nt ?_
      and_intros
      refine r_inL (sh_tx (rok s hs)) (sh_txs ok2) ?_
      rw [any_tx ok2 (rok s hs), decide_eq_true (roth s hs)]
      and_intros
      refine r_nt ?_
      exact ⟨rfl, hn rfl⟩
    rw [show r.filterMap (fun _ => (none : Option PyData)) = [] by simp]
    and_intros
    refine r_pures rfl (Nat.zero_le _) ?_
    and_intros
    refine ⟨⟨rfl, rfl⟩, ?_⟩
    show tstB _ (.d (.bool false)) _
    and_intros
    refine r_r2 ?_
    and_intros
    refine r_lenC c8' ?_
    and_intros
    rw [List.length_map]
    refine ⟨_, _, rfl, ⟨by decide, by decide, by omega, by omega⟩, ?_⟩
    refine loop_run (fun _ e s => ∃ v10, e = [some (.d (.tuple (one.map sgD))), some (.d (.tuple (other.map sgD))), some (.d (fallD rs)), some (.d (.list (one.map txD))), some (.d (.list (other.map txD))), v5, some (.ref σ.length), some (.d (.tuple (r.map sgD))), some (.ref (σ.length + (j.length + 1))), none, v10, none] ∧ s = σ ++ .lst (txW (rs.take i).flatten) :: (j ++ [.lst (txW r)])) ⟨_, rfl, rfl⟩ (fun k w e s Rest' hw h kk' => ?_) fun e s h => ?_
    · obtain ⟨v10, rfl, rfl⟩ := h
      obtain ⟨rfl, hk⟩ := rng_at hw
      have hk2 : k + 1 < r.length := by omega
      obtain ⟨a, ha⟩ : ∃ a, r[k]? = some a := ⟨_, List.getElem?_eq_getElem (by omega)⟩
      obtain ⟨b, hb⟩ : ∃ b, r[k + 1]? = some b := ⟨_, List.getElem?_eq_getElem hk2⟩
      have am := List.mem_of_getElem? ha
      have bm := List.mem_of_getElem? hb
      have o1 := next_of rris ha hb
      have o2 := next_of rfal ha hb
      have ia : atI (txW r) ((1 : Int) + (k : Nat) - 1) = some (.d (txD a)) := by
        rw [show (1 : Int) + (k : Nat) - 1 = ((k : Nat) : Int) by omega]
        exact atI_nat (by rw [List.getElem?_map, ha]; rfl)
      have ib : atI (txW r) ((1 : Int) + (k : Nat)) = some (.d (txD b)) := by
        rw [show (1 : Int) + (k : Nat) = ((k + 1 : Nat) : Int) by omega]
        exact atI_nat (by rw [List.getElem?_map, hb]; rfl)
      refine ⟨True.intro, ?_⟩
      and_intros
      refine ⟨rfl, ?_⟩
      and_intros
      refine r_ixC c8' ia ?_
      and_intros
      refine r_idxL (sh_txs ok1) (sh_tx (rok a am)) (fst_tx ok1 R1.nd (rone.subset am)) ?_
      and_intros
      refine ⟨rfl, ?_⟩
      and_intros
      refine r_ixC c8' ib ?_
      and_intros
      refine r_idxL (sh_txs ok1) (sh_tx (rok b bm)) (fst_tx ok1 R1.nd (rone.subset bm)) ?_
      and_intros
      refine r_ite (fun h => absurd h (by omega)) fun _ => ?_
      and_intros
      refine ⟨rfl, ?_⟩
      and_intros
      refine r_ixC c8' ia ?_
      and_intros
      refine r_idxL (sh_txs ok2) (sh_tx (rok a am)) (fst_tx ok2 R2.nd (roth a am)) ?_
      and_intros
      refine ⟨rfl, ?_⟩
      and_intros
      refine r_ixC c8' ib ?_
      and_intros
      refine r_idxL (sh_txs ok2) (sh_tx (rok b bm)) (fst_tx ok2 R2.nd (roth b bm)) ?_
      and_intros
      refine r_ite (fun h => absurd h (by omega)) fun _ => ?_
      and_intros
      exact kk' _ _ ⟨_, rfl, rfl⟩
    · obtain ⟨v10, rfl, rfl⟩ := h
      refine ⟨True.intro, ?_⟩
      and_intros
      refine r_tyC c6' ?_
      and_intros
      refine r_extend c6' c8' (Nat.le_of_lt (small (by rw [List.length_map, List.length_map]; omega))) ?_
      rw [px_s0]
      refine kk _ _ ⟨_, _, _, _, j ++ [.lst (txW r)], rfl, ?_⟩
      rw [take_snoc hr, List.flatten_append]
      simp [txW]
  · obtain ⟨v5, v7, v8, v10, j, rfl, rfl⟩ := h
    rw [List.length_map, List.take_length]
    refine ⟨True.intro, ?_⟩
    and_intros
    refine r_srtS (ss := rs.flatten.map tx) (by
      have e : pures (txW rs.flatten) = some (rs.flatten.map txD) := by
        rw [show txW rs.flatten = (rs.flatten.map txD).map Aw.W.d by rw [List.map_map]; rfl]
        exact pures_map _
      simp only [dat, px_j0, List.getElem?_cons_zero, e]
      rw [List.map_map]
      rfl) ?_
    and_intros
    rw [mapW]
    refine lc_fm one (fun s => Aw.W.d (txD s)) (fun s => if decide (s ∈ other) = true then some (txD s) else none) (fun _ => True.intro) (by omega) (fun s hs k Y N hy hn => ?_) ?_
    · and_intros
      refine r_inL (sh_tx (ok1 s hs)) (sh_txs ok2) ?_
      rw [any_tx ok2 (ok1 s hs)]
      and_intros
      refine r_ite (fun h => ?_) fun h => ?_
      · and_intros
        exact ⟨_, rfl, rfl, hy _ (by simp [h])⟩
      · exact ⟨rfl, hn (by simp [h])⟩
    rw [fm_if]
    and_intros
    refine r_srtS (ss := (com one other).map tx) (by
      show some _ = some _
      rw [List.map_map]
      rfl) ?_
    and_intros
    rw [srtS_perm (Fo.all.map tx)]
    have sh : SeqAt.shaped (.list ((srtS ((com one other).map tx)).map PyData.str)) = true := by
      rw [sh_tl]
      refine shaped_strs (n := 16000000) fun z hz => ?_
      have := (List.mergeSort_perm ((com one other).map tx) _).mem_iff.mp hz
      obtain ⟨s, hs, rfl⟩ := List.mem_map.mp this
      exact tx_asc (ok1 s (List.mem_filter.mp hs).1)
    refine ⟨⟨sh, sh⟩, ?_⟩
    show Q' (.d (.bool (PyData.eqv (.list ((srtS ((com one other).map tx)).map PyData.str)) (.list ((srtS ((com one other).map tx)).map PyData.str))))) _
    rw [SeqAt.eqv_refl _ (SeqAt.canLay_of_shaped sh)]
    exact key
end Lw

set_option maxHeartbeats 4000000
/-! L56K: k56: falling rows, the law. -/
namespace Lw
open PySem PySem.Spec PyProof.Rows L2 Mw Aw
theorem idx_inj {l : List Sg} {a b : Sg} (ha : a ∈ l) (hb : b ∈ l) (h : l.idxOf a = l.idxOf b) : a = b := by
  have h1 := List.idxOf_lt_length_of_mem ha
  have h2 := List.idxOf_lt_length_of_mem hb
  have e1 : l[l.idxOf a]? = some a := by rw [List.getElem?_eq_getElem h1, List.getElem_idxOf]
  have e2 : l[l.idxOf b]? = some b := by rw [List.getElem?_eq_getElem h2, List.getElem_idxOf]
  rw [h, e2] at e1
  exact (Option.some.inj e1).symm
theorem fall_is {one other : List Sg} (n1 : one.Nodup) (n2 : other.Nodup) : FallOk one other (rowsOf (lvs (Rq other) (com one other))) := by
  have ef := lvs_fst (Rq other) (com one other)
  have pw := lvs_pair (Rq other) (com one other)
  obtain ⟨n, h1, h2⟩ := ks_lvs (Rq other) (com one other)
  have hm : ∀ p ∈ lvs (Rq other) (com one other), p.1 ∈ other := fun p hp => by
    have : p.1 ∈ (lvs (Rq other) (com one other)).map (·.1) := List.mem_map.mpr ⟨p, hp, rfl⟩
    rw [ef] at this
    exact of_decide_eq_true (List.mem_filter.mp this).2
  have nd : (lvs (Rq other) (com one other)).Pairwise fun p q => p.1 ≠ q.1 := by
    have : ((lvs (Rq other) (com one other)).map (·.1)).Nodup := by rw [ef]; exact com_nd n1
    exact List.pairwise_map.mp this
  refine ⟨?_, fun r hr => ?_, fun r hr => ?_, fun r hr => ?_, ?_⟩
  · unfold rowsOf most
    rw [h1, h2]
    simp
  · obtain ⟨k, hk, rfl⟩ := List.mem_map.mp hr
    obtain ⟨p, hp, e⟩ := (mem_ks _ _).mp hk
    intro z
    have : p.1 ∈ ((lvs (Rq other) (com one other)).filter fun p => p.2 = k).map (·.1) := List.mem_map.mpr ⟨p, List.mem_filter.mpr ⟨hp, by simpa using e⟩, rfl⟩
    rw [z] at this
    cases this
  · obtain ⟨k, hk, rfl⟩ := List.mem_map.mp hr
    conv => rhs; rw [← ef]
    exact List.Sublist.map _ List.filter_sublist
  · obtain ⟨k, hk, rfl⟩ := List.mem_map.mp hr
    rw [List.pairwise_map]
    have pn := (List.Pairwise.and pw nd).filter (fun p : Sg × Int => decide (p.2 = k))
    refine List.Pairwise.imp_of_mem (fun {a b} ha hb h => ?_) pn
    obtain ⟨ha1, ha2⟩ := List.mem_filter.mp ha
    obtain ⟨hb1, hb2⟩ := List.mem_filter.mp hb
    have ha2 := of_decide_eq_true ha2
    have hb2 := of_decide_eq_true hb2
    have e1 : ¬ other.idxOf a.1 < other.idxOf b.1 := fun z => by
      have := h.1 (decide_eq_true z)
      omega
    have e2 : other.idxOf a.1 ≠ other.idxOf b.1 := fun z => h.2 (idx_inj (hm a ha1) (hm b hb1) z)
    omega
  · have := rows_perm (lvs (Rq other) (com one other))
    rwa [ef] at this
theorem row_nil (m : Nat) : Row m [] := ⟨.nil, fun s hs => (by cases hs), Nat.zero_le _⟩
theorem Row.mono {m k : Nat} {l : List Sg} (h : Row m l) (e : m ≤ k) : Row k l := ⟨h.nd, h.ok, Nat.le_trans h.len e⟩
theorem shw_nil : Shw (.tuple []) := (od_sgs (l := []) (fun s hs => (by cases hs)) (Nat.zero_le _)).shw
theorem law56_ok (ns : List Int) (hl : ns.length ≤ 63) : aFn 6 (p56Law f56Fall f56Isf f56Two f56Tap) [.scr ns] [] (fun w _ => w = .d (.bool true)) (fun _ _ => False) := by
  and_intros
  refine ⟨ns, rfl, hl, fun c0 ht0 => ?_⟩
  and_intros
  refine ⟨0, 0, 40, c0, rfl, rfl, ht0, by decide, by decide, by decide, fun a b c1 Ra Rb ht1 => ?_⟩
  have Ra := Ra.mono (show 40 ≤ 60 by decide)
  have Rb := Rb.mono (show 40 ≤ 60 by decide)
  refine r_agT2 ?_
  and_intros
  refine r_pures rfl (by show 2 ≤ sizeLine; decide) ?_
  and_intros
  refine r_pures rfl (by show 2 ≤ sizeLine; decide) ?_
  and_intros
  refine r_pures rfl (by show 2 ≤ sizeLine; decide) ?_
  and_intros
  refine r_pures rfl (by show 3 ≤ sizeLine; decide) ?_
  and_intros
  have items : ∀ {w : Aw.W} {i : Nat}, ([PyData.tuple [.tuple (a.map sgD), .tuple (b.map sgD)], .tuple [.tuple (b.map sgD), .tuple (a.map sgD)], .tuple [.tuple (a.map sgD), .tuple (b.map sgD)]].map Aw.W.d)[i]? = some w → ∃ x y, w = .d (.tuple [.tuple (x.map sgD), .tuple (y.map sgD)]) ∧ Row 60 x ∧ Row 60 y := fun {w i} h => by
    match i, h with
    | 0, h => cases h; exact ⟨a, b, rfl, Ra, Rb⟩
    | 1, h => cases h; exact ⟨b, a, rfl, Rb, Ra⟩
    | 2, h => cases h; exact ⟨a, b, rfl, Ra, Rb⟩
    | i + 3, h => simp at h
  refine loop_run (fun _ e s => ∃ v4 v5, e = [some (.scr ns), some (.ref 0), some (.d (.tuple (a.map sgD))), some (.d (.tuple (b.map sgD))), v4, v5]) ⟨_, _, rfl⟩ (fun i w e s Rest hw h kk => ?_) fun e s h => ?_
  · obtain ⟨v4, v5, rfl⟩ := h
    obtain ⟨x, y, rfl, Rx, Ry⟩ := items hw
    refine ⟨True.intro, ?_⟩
    refine r_agT2 ?_
    and_intros
    refine ⟨x, y, rfl, Rx, Ry, ?_⟩
    and_intros
    refine ⟨x, y, _, rfl, Rx, Ry, fall_is Rx.nd Ry.nd, ?_⟩
    and_intros
    refine r_nt ?_
    and_intros
    exact kk _ _ ⟨_, _, rfl⟩
  obtain ⟨v4, v5, rfl⟩ := h
  refine ⟨True.intro, ?_⟩
  and_intros
  refine ⟨a, a, rfl, Ra, Ra, ?_⟩
  and_intros
  refine ⟨a, a, _, rfl, Ra, Ra, fall_is Ra.nd Ra.nd, ?_⟩
  and_intros
  refine r_nt ?_
  and_intros
  refine r_pures rfl (Nat.zero_le _) ?_
  and_intros
  refine ⟨a, [], rfl, Ra, row_nil 60, ?_⟩
  rw [show com a [] = [] by simp [com]]
  and_intros
  refine r_repr (d := .tuple []) shw_nil ?_
  and_intros
  refine r_pures rfl (Nat.zero_le _) ?_
  and_intros
  refine r_repr (d := .tuple []) shw_nil ?_
  and_intros
  rw [decide_eq_true rfl]
  and_intros
  refine r_pures rfl (Nat.zero_le _) ?_
  and_intros
  refine ⟨[], b, rfl, row_nil 60, Rb, ?_⟩
  and_intros
  refine r_repr (d := .tuple []) shw_nil ?_
  and_intros
  refine r_pures rfl (Nat.zero_le _) ?_
  and_intros
  refine r_repr (d := .tuple []) shw_nil ?_
  and_intros
  rw [decide_eq_true rfl]
end Lw

set_option maxHeartbeats 8000000
set_option synthInstance.maxHeartbeats 2000000
set_option synthInstance.maxSize 100000
namespace K56
open PySem PySem.Spec PyProof.Rows L2 Mw Aw Lw
def topS (i : Nat) : Stmt := PySem.Challenge.pw_marginwords_k56_falling_rows.main.body.getD i (.Pass ⟨0, 0, 0, 0⟩)
abbrev sCpl : Stmt := topS 1
theorem scCpl : FnScope ["one", "other", "theirs", "place", "sign"] ["one", "other"] (defScope sCpl) := ⟨rfl, rfl, rfl, by decide +kernel, rfl, by decide +kernel, by decide +kernel⟩
abbrev sLev : Stmt := topS 3
theorem scLev : FnScope ["one", "other", "places", "found", "sign", "ahead", "each"] ["one", "other"] (defScope sLev) := ⟨rfl, rfl, rfl, by decide +kernel, rfl, by decide +kernel, by decide +kernel⟩
abbrev sFall : Stmt := topS 4
theorem scFall : FnScope ["one", "other", "rows", "found", "sign"] ["one", "other"] (defScope sFall) := ⟨rfl, rfl, rfl, by decide +kernel, rfl, by decide +kernel, by decide +kernel⟩
abbrev sTap : Stmt := topS 6
theorem scTap : FnScope ["_law_script"] ["_law_script"] (defScope sTap) := ⟨rfl, rfl, rfl, by decide +kernel, rfl, by decide +kernel, by decide +kernel⟩
abbrev sPick : Stmt := topS 7
theorem scPick : FnScope ["_law_tap_here", "_law_many", "_law_cells", "_law_at", "_law_rest", "_law_turn", "_law_cell", "_law_mixed"] ["_law_tap_here", "_law_many"] (defScope sPick) := ⟨rfl, rfl, rfl, by decide +kernel, rfl, by decide +kernel, by decide +kernel⟩
abbrev sWord : Stmt := topS 8
theorem scWord : FnScope ["_law_tap_here", "_law_found", "_law_k"] ["_law_tap_here"] (defScope sWord) := ⟨rfl, rfl, rfl, by decide +kernel, rfl, by decide +kernel, by decide +kernel⟩
abbrev sSigns : Stmt := topS 9
theorem scSigns : FnScope ["_law_tap_here", "_law_many", "_law_words", "_law_k", "_law_found", "_law_sign"] ["_law_tap_here", "_law_many"] (defScope sSigns) := ⟨rfl, rfl, rfl, by decide +kernel, rfl, by decide +kernel, by decide +kernel⟩
abbrev sShuf : Stmt := topS 10
theorem scShuf : FnScope ["_law_tap_here", "_law_some", "_law_found", "_law_one"] ["_law_tap_here", "_law_some"] (defScope sShuf) := ⟨rfl, rfl, rfl, by decide +kernel, rfl, by decide +kernel, by decide +kernel⟩
abbrev sBlk : Stmt := topS 11
theorem scBlk : FnScope ["_law_tap_here", "_law_some", "_law_found", "_law_k", "_law_i", "_law_j", "_law_cut", "_law_rest", "_law_q"] ["_law_tap_here", "_law_some"] (defScope sBlk) := ⟨rfl, rfl, rfl, by decide +kernel, rfl, by decide +kernel, by decide +kernel⟩
abbrev sTwo : Stmt := topS 12
theorem scTwo : FnScope ["_law_tap_here", "_law_most", "_law_way", "_law_many", "_law_one", "_law_newer", "_law_sign", "_law_other"] ["_law_tap_here", "_law_most"] (defScope sTwo) := ⟨rfl, rfl, rfl, by decide +kernel, rfl, by decide +kernel, by decide +kernel⟩
abbrev sLong : Stmt := topS 13
theorem scLong : FnScope ["_law_one", "_law_other", "_law_found", "_law_sign", "_law_place", "_law_behind", "_law_many", "_law_earlier"] ["_law_one", "_law_other"] (defScope sLong) := ⟨rfl, rfl, rfl, by decide +kernel, rfl, by decide +kernel, by decide +kernel⟩
abbrev sIsf : Stmt := topS 14
theorem scIsf : FnScope ["_law_one", "_law_other", "_law_told", "_law_names", "_law_others", "_law_sign", "_law_seen", "_law_row", "_law_texts", "_law_texted", "_law_k", "_law_name"] ["_law_one", "_law_other", "_law_told"] (defScope sIsf) := ⟨rfl, rfl, rfl, by decide +kernel, rfl, by decide +kernel, by decide +kernel⟩
abbrev sLaw : Stmt := topS 15
theorem scLaw : FnScope ["_law_script", "_law_tap_here", "_law_one", "_law_other", "_law_first", "_law_second"] ["_law_script"] (defScope sLaw) := ⟨rfl, rfl, rfl, by decide +kernel, rfl, by decide +kernel, by decide +kernel⟩
section
variable {P : Program} {w : World} {Z : Zx} {mg : Str → Option Value} {base : Heap}
theorem ok_Cpl {f c : Addr} {fd : FuncData} (D : Def Z.K "common_places" sCpl f c fd) (bd : Binds Z.K fd ["one", "other"] []) (gl : mg "common_places" = some (.ref f)) (m_enumerate : mg "enumerate" = none) :
    CalF P w Z mg base "common_places" 2 ["one", "other"] (aFn 5 p56Cpl) := by
  refine ⟨f, fd, D.kp, bd, gl, fnA (k := 1) D scCpl fun A outer s H F hr => ?_⟩
  refine ⟨_, (pss_cons (ps_set (i := 2) scCpl.nd rfl (by first | exact Or.inl rfl | exact Or.inr rfl) (pe_dcTA (own := [("place", 3), ("sign", 4)]) (vs := [3, 4]) rfl (Room.u1 hr) rfl scCpl.nd (pi_enumU (K := Z.K) rfl (by rfl) m_enumerate (pa_cons (pv 1) pa_nil)) (blkOk_by (N := ["one", "other", "theirs", "place", "sign"]) (sc := defScope sCpl) (by decide +kernel)) (fun _ _ _ _ _ => (pg_tupA (n := 2) (K := Z.K) rfl rfl (pgs_cons (pg_name (i := 3) scCpl.nd rfl (by first | exact Or.inl rfl | exact Or.inr rfl)) (pgs_cons (pg_name (i := 4) scCpl.nd rfl (by first | exact Or.inl rfl | exact Or.inr rfl)) pgs_nil)))) (fun _ _ _ _ _ => pts_nil) (fun _ _ _ _ _ => (pv 4)) (fun _ _ _ _ _ => (pv 3))))
      (pss_one (ps_ret (pe_dcTA (own := [("place", 3), ("sign", 4)]) (vs := [3, 4]) rfl (Room.u1 hr) rfl scCpl.nd (pi_enumU (K := Z.K) rfl (by rfl) m_enumerate (pa_cons (pv 0) pa_nil)) (blkOk_by (N := ["one", "other", "theirs", "place", "sign"]) (sc := defScope sCpl) (by decide +kernel)) (fun _ _ _ _ _ => (pg_tupA (n := 2) (K := Z.K) rfl rfl (pgs_cons (pg_name (i := 3) scCpl.nd rfl (by first | exact Or.inl rfl | exact Or.inr rfl)) (pgs_cons (pg_name (i := 4) scCpl.nd rfl (by first | exact Or.inl rfl | exact Or.inr rfl)) pgs_nil)))) (fun _ _ _ _ _ => (pts_one (pt_cmpR (op_inU (K := Z.K) rfl hr) (pv 4) (pv 2) rfl))) (fun _ _ _ _ _ => (pv 4)) (fun _ _ _ _ _ => (pe_tupF (pa_cons (pv 3) (pa_cons (pe_ixA (K := Z.K) rfl hr (pv 2) (pv 4) (fun _ _ => rfl)) pa_nil)))))))), ?_⟩
  exact inferInstance
theorem ok_Lev {f c : Addr} {fd : FuncData} {fCpl : AF} (D : Def Z.K "levels" sLev f c fd) (bd : Binds Z.K fd ["one", "other"] []) (gl : mg "levels" = some (.ref f)) (m_max : mg "max" = none) (hCpl : CalF P w Z mg base "common_places" 2 ["one", "other"] fCpl) :
    CalF P w Z mg base "levels" 4 ["one", "other"] (aFn 7 (p56Lev fCpl)) := by
  refine ⟨f, fd, D.kp, bd, gl, fnA (k := 3) D scLev fun A outer s H F hr => ?_⟩
  refine ⟨_, (pss_cons (ps_set (i := 2) scLev.nd rfl (by first | exact Or.inl rfl | exact Or.inr rfl) (pe_callA (F := F) (n := 2) hCpl rfl rfl rfl rfl rfl rfl (hr.mono (by decide)) (by rfl) (pa_cons (pv 0) (pa_cons (pv 1) pa_nil))))
      (pss_cons (ps_set (i := 3) scLev.nd rfl (by first | exact Or.inl rfl | exact Or.inr rfl) pe_dnewT)
      (pss_cons (ps_for PassesOwn.never rfl (pi_U (K := Z.K) rfl (pv 2)) (pg_name (i := 4) scLev.nd rfl (by first | exact Or.inl rfl | exact Or.inr rfl))
        (pss_cons (ps_lock (ps_setLcA (i := 5) (own := [("each", 6)]) (vs := [6]) rfl rfl scLev.nd rfl rfl (sw_true rfl rfl rfl (by decide +kernel)) (pi_U (K := Z.K) rfl (pv 3)) (blkOk_by (N := ["one", "other", "places", "found", "sign", "ahead", "each"]) (sc := defScope sLev) (by decide +kernel)) (fun _ _ _ _ _ => (pg_name (i := 6) scLev.nd rfl (by first | exact Or.inl rfl | exact Or.inr rfl))) (fun _ _ _ _ _ => (pts_one (pt_cmpR (op_ltU (K := Z.K) rfl hr) (pe_ixA (K := Z.K) rfl hr (pe_ixA (K := Z.K) rfl hr (pv 2) (pv 6) (fun _ _ => rfl)) pe_int (fun _ _ => rfl)) (pe_ixA (K := Z.K) rfl hr (pe_ixA (K := Z.K) rfl hr (pv 2) (pv 4) (fun _ _ => rfl)) pe_int (fun _ _ => rfl)) (nomark _)))) (fun _ _ _ _ _ => (pe_ixA (K := Z.K) rfl hr (pv 3) (pv 6) (fun _ _ => rfl)))))
      (pss_one (ps_dput (Room.u1 hr) (pv 3) (pv 4) (pe_op (op_addU (K := Z.K) rfl) pe_int (pe_callBK (call_maxA (K := Z.K) rfl rfl hr) (by rfl) m_max boot_max (pa_cons (pv 5) pa_nil) (pk_cons pe_int pk_nil))) rfl))))
      (pss_one (ps_ret (pv 3)))))), ?_⟩
  exact inferInstance
theorem ok_Fall {f c : Addr} {fd : FuncData} {fLev : AF} (D : Def Z.K "falling_rows" sFall f c fd) (bd : Binds Z.K fd ["one", "other"] []) (gl : mg "falling_rows" = some (.ref f)) (m_tuple : mg "tuple" = none) (hLev : CalF P w Z mg base "levels" 4 ["one", "other"] fLev) :
    CalF P w Z mg base "falling_rows" 6 ["one", "other"] (aFn 5 (p56Fall fLev)) := by
  refine ⟨f, fd, D.kp, bd, gl, fnA (k := 5) D scFall fun A outer s H F hr => ?_⟩
  refine ⟨_, (pss_cons (ps_set (i := 2) scFall.nd rfl (by first | exact Or.inl rfl | exact Or.inr rfl) pe_dnewK)
      (pss_cons (ps_set (i := 3) scFall.nd rfl (by first | exact Or.inl rfl | exact Or.inr rfl) (pe_callA (F := F) (n := 2) hLev rfl rfl rfl rfl rfl rfl (hr.mono (by decide)) (by rfl) (pa_cons (pv 0) (pa_cons (pv 1) pa_nil))))
      (pss_cons (ps_for PassesOwn.never rfl (pi_U (K := Z.K) rfl (pv 3)) (pg_name (i := 4) scFall.nd rfl (by first | exact Or.inl rfl | exact Or.inr rfl))
        (pss_one (ps_dput (Room.u1 hr) (pv 2) (pe_ixA (K := Z.K) rfl hr (pv 3) (pv 4) (fun _ _ => rfl)) (pe_op (op_addU (K := Z.K) rfl) (pe_dget2 (Room.u1 hr) (pv 2) (pe_ixA (K := Z.K) rfl hr (pv 3) (pv 4) (fun _ _ => rfl)) (pe_tupF pa_nil) ⟨rfl, rfl, rfl, rfl⟩) (pe_tupF (pa_cons (pv 4) pa_nil))) rfl)))
      (pss_one (ps_ret (pe_tupVK rfl (by rfl) m_tuple (pv 2))))))), ?_⟩
  exact inferInstance
theorem ok_Tap {f c : Addr} {fd : FuncData} (D : Def Z.K "_law_tap" sTap f c fd) (bd : Binds Z.K fd ["_law_script"] []) (gl : mg "_law_tap" = some (.ref f)) (m_list : mg "list" = none) :
    CalF P w Z mg base "_law_tap" 2 ["_law_script"] (aFn 1 p56Tap) := by
  refine ⟨f, fd, D.kp, bd, gl, fnA (k := 1) D scTap fun A outer s H F hr => ?_⟩
  refine ⟨_, (pss_one (ps_ret (pe_lstC (pa_cons (pe_callTy (call_listU (K := Z.K) rfl) (by rfl) m_list PyProof.Rows.boot_list (pa_cons (pe_slice (sl_U (K := Z.K) rfl) (pv 0) po_none (po_some pe_int)) pa_nil)) (pa_cons pe_int (pa_cons pe_int (pa_cons pe_int pa_nil))))))), ?_⟩
  exact inferInstance
theorem ok_Pick {f c : Addr} {fd : FuncData} (D : Def Z.K "_law_pick" sPick f c fd) (bd : Binds Z.K fd ["_law_tap_here", "_law_many"] []) (gl : mg "_law_pick" = some (.ref f)) (m_len : mg "len" = none) :
    CalF P w Z mg base "_law_pick" 2 ["_law_tap_here", "_law_many"] (aFn 8 p56Pick) := by
  refine ⟨f, fd, D.kp, bd, gl, fnA (k := 1) D scPick fun A outer s H F hr => ?_⟩
  refine ⟨_, (pss_cons (ps_asg (pv 0) (pg_lstA (n := 4) (K := Z.K) rfl rfl (pgs_cons (pg_name (i := 2) scPick.nd rfl (by first | exact Or.inl rfl | exact Or.inr rfl)) (pgs_cons (pg_name (i := 3) scPick.nd rfl (by first | exact Or.inl rfl | exact Or.inr rfl)) (pgs_cons (pg_name (i := 4) scPick.nd rfl (by first | exact Or.inl rfl | exact Or.inr rfl)) (pgs_cons (pg_name (i := 5) scPick.nd rfl (by first | exact Or.inl rfl | exact Or.inr rfl)) pgs_nil))))))
      (pss_cons (ps_asg (pe_op (op_addU (K := Z.K) rfl) (pv 5) pe_int) (pg_sub (pv 0) pe_int set_list))
      (pss_cons (ps_if (pt_cmpR (op_gtU (K := Z.K) rfl hr) (pv 4) pe_int (nomark _))
        (pss_cons (ps_asg (pe_op op_fdivU (pv 4) (pv 1)) (pg_sub (pv 0) pe_int set_list))
      (pss_one (ps_ret (pe_op op_modU (pv 4) (pv 1)))))
        pss_nil)
      (pss_cons (ps_asg (pe_op (op_addU (K := Z.K) rfl) (pv 3) pe_int) (pg_sub (pv 0) pe_int set_list))
      (pss_cons (ps_set (i := 6) scPick.nd rfl (by first | exact Or.inl rfl | exact Or.inr rfl) (pe_ifExp (pt_cmpR (op_neU (K := Z.K) rfl hr) (pv 2) (pe_lst pa_nil) (nomark _)) (pe_ixA (K := Z.K) rfl hr (pv 2) (pe_op op_modU (pv 3) (pe_callB (call_lenU (K := Z.K) rfl) (by rfl) m_len PySem.boot_len (pa_cons (pv 2) pa_nil))) (fun _ _ => rfl)) pe_int))
      (pss_cons (ps_if (PW.pt (pw_and (pt_cmpR (op_geU (K := Z.K) rfl hr) (pv 6) (pe_op op_powU pe_int pe_int) (nomark _)) (pw_and1 (pt_cmpR (op_ltU (K := Z.K) rfl hr) (pv 3) (pe_callB (call_lenU (K := Z.K) rfl) (by rfl) m_len PySem.boot_len (pa_cons (pv 2) pa_nil)) (nomark _)))))
        (pss_cons (ps_asg (pe_op op_fdivU (pv 6) (pv 1)) (pg_sub (pv 0) pe_int set_list))
      (pss_one (ps_ret (pe_op op_modU (pv 6) (pv 1)))))
        pss_nil)
      (pss_cons (ps_set (i := 7) scPick.nd rfl (by first | exact Or.inl rfl | exact Or.inr rfl) (pe_op op_modU (pe_op op_powU (pe_op (op_addU (K := Z.K) rfl) (pe_op op_modU (pv 6) pe_int) (pe_op op_mulU pe_int (pe_op (op_addU (K := Z.K) rfl) (pv 5) pe_int))) pe_int) pe_int))
      (pss_cons (ps_set (i := 7) scPick.nd rfl (by first | exact Or.inl rfl | exact Or.inr rfl) (pe_op op_modU (pe_op op_powU (pe_op (op_addU (K := Z.K) rfl) (pe_op (op_addU (K := Z.K) rfl) (pv 7) (pe_op op_mulU pe_int (pv 5))) pe_int) pe_int) pe_int))
      (pss_cons (ps_set (i := 7) scPick.nd rfl (by first | exact Or.inl rfl | exact Or.inr rfl) (pe_op op_modU (pe_op op_powU (pe_op (op_addU (K := Z.K) rfl) (pe_op (op_addU (K := Z.K) rfl) (pv 7) (pe_op op_modU (pv 6) pe_int)) (pv 5)) pe_int) pe_int))
      (pss_one (ps_ret (pe_op op_modU (pe_op op_fdivU (pv 7) pe_int) (pv 1))))))))))))), ?_⟩
  exact inferInstance
theorem ok_Word {f c : Addr} {fd : FuncData} {fPick : AF} (D : Def Z.K "_law_word" sWord f c fd) (bd : Binds Z.K fd ["_law_tap_here"] []) (gl : mg "_law_word" = some (.ref f)) (m_range : mg "range" = none) (hPick : CalF P w Z mg base "_law_pick" 2 ["_law_tap_here", "_law_many"] fPick) :
    CalF P w Z mg base "_law_word" 4 ["_law_tap_here"] (aFn 3 (p56Word fPick)) := by
  refine ⟨f, fd, D.kp, bd, gl, fnA (k := 3) D scWord fun A outer s H F hr => ?_⟩
  refine ⟨_, (pss_cons (ps_set (i := 1) scWord.nd rfl (by first | exact Or.inl rfl | exact Or.inr rfl) pe_str)
      (pss_cons (ps_for PassesOwn.never rfl (pi_range1 (by rfl) m_range (pa_cons (pe_op (op_addU (K := Z.K) rfl) pe_int (pe_callA (F := F) (n := 2) hPick rfl rfl rfl rfl rfl rfl (hr.mono (by decide)) (by rfl) (pa_cons (pv 0) (pa_cons (pe_ixA (K := Z.K) rfl hr (pe_lst (pa_cons pe_int (pa_cons pe_int (pa_cons pe_int (pa_cons pe_int pa_nil))))) (pe_callA (F := F) (n := 2) hPick rfl rfl rfl rfl rfl rfl (hr.mono (by decide)) (by rfl) (pa_cons (pv 0) (pa_cons pe_int pa_nil))) (fun _ _ => rfl)) pa_nil)))) pa_nil)) (pg_name (i := 2) scWord.nd rfl (by first | exact Or.inl rfl | exact Or.inr rfl))
        (pss_one (ps_set (i := 1) scWord.nd rfl (by first | exact Or.inl rfl | exact Or.inr rfl) (pe_op (op_addU (K := Z.K) rfl) (pv 1) (pe_ixA (K := Z.K) rfl hr pe_str (pe_callA (F := F) (n := 2) hPick rfl rfl rfl rfl rfl rfl (hr.mono (by decide)) (by rfl) (pa_cons (pv 0) (pa_cons pe_int pa_nil))) (fun _ _ => rfl))))))
      (pss_one (ps_ret (pv 1))))), ?_⟩
  exact inferInstance
theorem ok_Signs {f c : Addr} {fd : FuncData} {fPick fWord : AF} (D : Def Z.K "_law_signs" sSigns f c fd) (bd : Binds Z.K fd ["_law_tap_here", "_law_many"] []) (gl : mg "_law_signs" = some (.ref f)) (m_len : mg "len" = none) (m_range : mg "range" = none) (hPick : CalF P w Z mg base "_law_pick" 2 ["_law_tap_here", "_law_many"] fPick) (hWord : CalF P w Z mg base "_law_word" 4 ["_law_tap_here"] fWord) :
    CalF P w Z mg base "_law_signs" 6 ["_law_tap_here", "_law_many"] (aFn 6 (p56Signs fPick fWord)) := by
  refine ⟨f, fd, D.kp, bd, gl, fnA (k := 5) D scSigns fun A outer s H F hr => ?_⟩
  refine ⟨_, (pss_cons (ps_setLcA (i := 2) (own := [("_law_k", 3)]) (vs := [3]) rfl rfl scSigns.nd rfl rfl (sw_true rfl rfl rfl (by decide +kernel)) (pi_range1 (by rfl) m_range (pa_cons (pe_op (op_addU (K := Z.K) rfl) pe_int (pe_callA (F := F) (n := 2) hPick rfl rfl rfl rfl rfl rfl (hr.mono (by decide)) (by rfl) (pa_cons (pv 0) (pa_cons pe_int pa_nil)))) pa_nil)) (blkOk_by (N := ["_law_tap_here", "_law_many", "_law_words", "_law_k", "_law_found", "_law_sign"]) (sc := defScope sSigns) (by decide +kernel)) (fun _ _ _ _ _ => (pg_name (i := 3) scSigns.nd rfl (by first | exact Or.inl rfl | exact Or.inr rfl))) (fun _ _ _ _ _ => pts_nil) (fun _ _ _ _ _ => (pe_callA (F := F) (n := 1) hWord rfl rfl rfl rfl rfl rfl (hr.mono (by decide)) (by rfl) (pa_cons (pv 0) pa_nil))))
      (pss_cons (ps_set (i := 4) scSigns.nd rfl (by first | exact Or.inl rfl | exact Or.inr rfl) (pe_lstC pa_nil))
      (pss_cons (ps_for PassesOwn.never rfl (pi_range1 (by rfl) m_range (pa_cons (pv 1) pa_nil)) (pg_name (i := 3) scSigns.nd rfl (by first | exact Or.inl rfl | exact Or.inr rfl))
        (pss_cons (ps_set (i := 5) scSigns.nd rfl (by first | exact Or.inl rfl | exact Or.inr rfl) (pe_tupF (pa_cons (pe_op (op_addU (K := Z.K) rfl) pe_int (pe_callA (F := F) (n := 2) hPick rfl rfl rfl rfl rfl rfl (hr.mono (by decide)) (by rfl) (pa_cons (pv 0) (pa_cons pe_int pa_nil)))) (pa_cons (pe_ixA (K := Z.K) rfl hr (pv 2) (pe_callA (F := F) (n := 2) hPick rfl rfl rfl rfl rfl rfl (hr.mono (by decide)) (by rfl) (pa_cons (pv 0) (pa_cons (pe_callB (call_lenU (K := Z.K) rfl) (by rfl) m_len PySem.boot_len (pa_cons (pv 2) pa_nil)) pa_nil))) (fun _ _ => rfl)) (pa_cons (pe_callA (F := F) (n := 2) hPick rfl rfl rfl rfl rfl rfl (hr.mono (by decide)) (by rfl) (pa_cons (pv 0) (pa_cons pe_int pa_nil))) pa_nil)))))
      (pss_one (ps_if (pt_cmpR (op_notInU (K := Z.K) rfl hr) (pv 5) (pv 4) rfl)
        (pss_one (ps_expr (pe_bmA (K := Z.K) rfl PySem.F.plainAttrs_list PySem.F.slot_list_append PySem.F.type_list_append mt_append (pv 4) (pa_cons (pv 5) pa_nil))))
        pss_nil))))
      (pss_one (ps_ret (pv 4)))))), ?_⟩
  exact inferInstance
theorem ok_Shuf {f c : Addr} {fd : FuncData} {fPick : AF} (D : Def Z.K "_law_shuffled" sShuf f c fd) (bd : Binds Z.K fd ["_law_tap_here", "_law_some"] []) (gl : mg "_law_shuffled" = some (.ref f)) (m_len : mg "len" = none) (hPick : CalF P w Z mg base "_law_pick" 2 ["_law_tap_here", "_law_many"] fPick) :
    CalF P w Z mg base "_law_shuffled" 4 ["_law_tap_here", "_law_some"] (aFn 4 (p56Shuf fPick)) := by
  refine ⟨f, fd, D.kp, bd, gl, fnA (k := 3) D scShuf fun A outer s H F hr => ?_⟩
  refine ⟨_, (pss_cons (ps_set (i := 2) scShuf.nd rfl (by first | exact Or.inl rfl | exact Or.inr rfl) (pe_lstC pa_nil))
      (pss_cons (ps_for PassesOwn.never rfl (pi_U (K := Z.K) rfl (pv 1)) (pg_name (i := 3) scShuf.nd rfl (by first | exact Or.inl rfl | exact Or.inr rfl))
        (pss_one (ps_expr (pe_bmA (K := Z.K) rfl PySem.F.plainAttrs_list PySem.F.slot_list_insert PySem.F.type_list_insert mt_insertA (pv 2) (pa_cons (pe_callA (F := F) (n := 2) hPick rfl rfl rfl rfl rfl rfl (hr.mono (by decide)) (by rfl) (pa_cons (pv 0) (pa_cons (pe_op (op_addU (K := Z.K) rfl) (pe_callB (call_lenU (K := Z.K) rfl) (by rfl) m_len PySem.boot_len (pa_cons (pv 2) pa_nil)) pe_int) pa_nil))) (pa_cons (pv 3) pa_nil))))))
      (pss_one (ps_ret (pv 2))))), ?_⟩
  exact inferInstance
theorem ok_Blk {f c : Addr} {fd : FuncData} {fPick : AF} (D : Def Z.K "_law_blocks" sBlk f c fd) (bd : Binds Z.K fd ["_law_tap_here", "_law_some"] []) (gl : mg "_law_blocks" = some (.ref f)) (m_len : mg "len" = none) (m_list : mg "list" = none) (m_max : mg "max" = none) (m_min : mg "min" = none) (m_range : mg "range" = none) (hPick : CalF P w Z mg base "_law_pick" 2 ["_law_tap_here", "_law_many"] fPick) :
    CalF P w Z mg base "_law_blocks" 4 ["_law_tap_here", "_law_some"] (aFn 9 (p56Blk fPick)) := by
  refine ⟨f, fd, D.kp, bd, gl, fnA (k := 3) D scBlk fun A outer s H F hr => ?_⟩
  refine ⟨_, (pss_cons (ps_set (i := 2) scBlk.nd rfl (by first | exact Or.inl rfl | exact Or.inr rfl) (pe_callTy (call_listU (K := Z.K) rfl) (by rfl) m_list PyProof.Rows.boot_list (pa_cons (pv 1) pa_nil)))
      (pss_cons (ps_for PassesOwn.never rfl (pi_range1 (by rfl) m_range (pa_cons (pe_callA (F := F) (n := 2) hPick rfl rfl rfl rfl rfl rfl (hr.mono (by decide)) (by rfl) (pa_cons (pv 0) (pa_cons pe_int pa_nil))) pa_nil)) (pg_name (i := 3) scBlk.nd rfl (by first | exact Or.inl rfl | exact Or.inr rfl))
        (pss_cons (ps_par (i := 4) (j := 5) rfl scBlk.nd rfl rfl (by decide) rfl rfl (pa_cons (pe_callA (F := F) (n := 2) hPick rfl rfl rfl rfl rfl rfl (hr.mono (by decide)) (by rfl) (pa_cons (pv 0) (pa_cons (pe_op (op_addU (K := Z.K) rfl) (pe_callB (call_lenU (K := Z.K) rfl) (by rfl) m_len PySem.boot_len (pa_cons (pv 2) pa_nil)) pe_int) pa_nil))) (pa_cons (pe_callA (F := F) (n := 2) hPick rfl rfl rfl rfl rfl rfl (hr.mono (by decide)) (by rfl) (pa_cons (pv 0) (pa_cons (pe_op (op_addU (K := Z.K) rfl) (pe_callB (call_lenU (K := Z.K) rfl) (by rfl) m_len PySem.boot_len (pa_cons (pv 2) pa_nil)) pe_int) pa_nil))) pa_nil)) rfl)
      (pss_cons (ps_set (i := 6) scBlk.nd rfl (by first | exact Or.inl rfl | exact Or.inr rfl) (pe_slice (sl_U (K := Z.K) rfl) (pv 2) (po_some (pe_callB (call_min2A rfl) (by rfl) m_min boot_minA (pa_cons (pv 4) (pa_cons (pv 5) pa_nil)))) (po_some (pe_callB (call_max2A rfl) (by rfl) m_max boot_maxA (pa_cons (pv 4) (pa_cons (pv 5) pa_nil))))))
      (pss_cons (ps_set (i := 7) scBlk.nd rfl (by first | exact Or.inl rfl | exact Or.inr rfl) (pe_op (op_addU (K := Z.K) rfl) (pe_slice (sl_U (K := Z.K) rfl) (pv 2) po_none (po_some (pe_callB (call_min2A rfl) (by rfl) m_min boot_minA (pa_cons (pv 4) (pa_cons (pv 5) pa_nil))))) (pe_slice (sl_U (K := Z.K) rfl) (pv 2) (po_some (pe_callB (call_max2A rfl) (by rfl) m_max boot_maxA (pa_cons (pv 4) (pa_cons (pv 5) pa_nil)))) po_none)))
      (pss_cons (ps_set (i := 8) scBlk.nd rfl (by first | exact Or.inl rfl | exact Or.inr rfl) (pe_callA (F := F) (n := 2) hPick rfl rfl rfl rfl rfl rfl (hr.mono (by decide)) (by rfl) (pa_cons (pv 0) (pa_cons (pe_op (op_addU (K := Z.K) rfl) (pe_callB (call_lenU (K := Z.K) rfl) (by rfl) m_len PySem.boot_len (pa_cons (pv 7) pa_nil)) pe_int) pa_nil))))
      (pss_one (ps_set (i := 2) scBlk.nd rfl (by first | exact Or.inl rfl | exact Or.inr rfl) (pe_op (op_addU (K := Z.K) rfl) (pe_op (op_addU (K := Z.K) rfl) (pe_slice (sl_U (K := Z.K) rfl) (pv 7) po_none (po_some (pv 8))) (pv 6)) (pe_slice (sl_U (K := Z.K) rfl) (pv 7) (po_some (pv 8)) po_none)))))))))
      (pss_one (ps_ret (pv 2))))), ?_⟩
  exact inferInstance
theorem ok_Two {f c : Addr} {fd : FuncData} {fPick fBlk fShuf fSigns : AF} (D : Def Z.K "_law_two" sTwo f c fd) (bd : Binds Z.K fd ["_law_tap_here", "_law_most"] []) (gl : mg "_law_two" = some (.ref f)) (m_len : mg "len" = none) (m_list : mg "list" = none) (m_min : mg "min" = none) (m_tuple : mg "tuple" = none) (hPick : CalF P w Z mg base "_law_pick" 2 ["_law_tap_here", "_law_many"] fPick) (hBlk : CalF P w Z mg base "_law_blocks" 4 ["_law_tap_here", "_law_some"] fBlk) (hShuf : CalF P w Z mg base "_law_shuffled" 4 ["_law_tap_here", "_law_some"] fShuf) (hSigns : CalF P w Z mg base "_law_signs" 6 ["_law_tap_here", "_law_many"] fSigns) :
    CalF P w Z mg base "_law_two" 8 ["_law_tap_here", "_law_most"] (aFn 8 (p56Two fPick fBlk fShuf fSigns)) := by
  refine ⟨f, fd, D.kp, bd, gl, fnA (k := 7) D scTwo fun A outer s H F hr => ?_⟩
  refine ⟨_, (pss_cons (ps_set (i := 2) scTwo.nd rfl (by first | exact Or.inl rfl | exact Or.inr rfl) (pe_callA (F := F) (n := 2) hPick rfl rfl rfl rfl rfl rfl (hr.mono (by decide)) (by rfl) (pa_cons (pv 0) (pa_cons pe_int pa_nil))))
      (pss_cons (ps_set (i := 3) scTwo.nd rfl (by first | exact Or.inl rfl | exact Or.inr rfl) (pe_ifExp (pt_cmpR (op_eqU (K := Z.K) rfl hr) (pe_callA (F := F) (n := 2) hPick rfl rfl rfl rfl rfl rfl (hr.mono (by decide)) (by rfl) (pa_cons (pv 0) (pa_cons pe_int pa_nil))) pe_int (nomark _)) (pv 1) (pe_callA (F := F) (n := 2) hPick rfl rfl rfl rfl rfl rfl (hr.mono (by decide)) (by rfl) (pa_cons (pv 0) (pa_cons (pe_op (op_addU (K := Z.K) rfl) (pe_callB (call_min2A rfl) (by rfl) m_min boot_minA (pa_cons (pv 1) (pa_cons pe_int pa_nil))) pe_int) pa_nil)))))
      (pss_cons (ps_set (i := 4) scTwo.nd rfl (by first | exact Or.inl rfl | exact Or.inr rfl) (pe_callA (F := F) (n := 2) hSigns rfl rfl rfl rfl rfl rfl (hr.mono (by decide)) (by rfl) (pa_cons (pv 0) (pa_cons (pv 3) pa_nil))))
      (pss_cons (ps_setLcA (i := 5) (own := [("_law_sign", 6)]) (vs := [6]) rfl rfl scTwo.nd rfl rfl (sw_true rfl rfl rfl (by decide +kernel)) (pi_U (K := Z.K) rfl (pe_callA (F := F) (n := 2) hSigns rfl rfl rfl rfl rfl rfl (hr.mono (by decide)) (by rfl) (pa_cons (pv 0) (pa_cons pe_int pa_nil)))) (blkOk_by (N := ["_law_tap_here", "_law_most", "_law_way", "_law_many", "_law_one", "_law_newer", "_law_sign", "_law_other"]) (sc := defScope sTwo) (by decide +kernel)) (fun _ _ _ _ _ => (pg_name (i := 6) scTwo.nd rfl (by first | exact Or.inl rfl | exact Or.inr rfl))) (fun _ _ _ _ _ => (pts_one (pt_cmpR (op_notInU (K := Z.K) rfl hr) (pv 6) (pv 4) rfl))) (fun _ _ _ _ _ => (pv 6)))
      (pss_cons (ps_set (i := 7) scTwo.nd rfl (by first | exact Or.inl rfl | exact Or.inr rfl) (pe_callTy (call_listC (K := Z.K) rfl) (by rfl) m_list PyProof.Rows.boot_list (pa_cons (pv 4) pa_nil)))
      (pss_cons (ps_if (pt_cmpR (op_eqU (K := Z.K) rfl hr) (pv 2) pe_int (nomark _))
        (pss_one (ps_set (i := 7) scTwo.nd rfl (by first | exact Or.inl rfl | exact Or.inr rfl) (pe_stpA (K := Z.K) rfl (pv 4) (pe_un un_negU pe_int))))
        pss_nil)
      (pss_cons (ps_if (PW.pt (pw_or (pt_cmpR (op_eqU (K := Z.K) rfl hr) (pv 2) pe_int (nomark _)) (pw_or1 (pt_cmpR (op_eqU (K := Z.K) rfl hr) (pv 2) pe_int (nomark _)))))
        (pss_one (ps_set (i := 7) scTwo.nd rfl (by first | exact Or.inl rfl | exact Or.inr rfl) (pe_callA (F := F) (n := 2) hShuf rfl rfl rfl rfl rfl rfl (hr.mono (by decide)) (by rfl) (pa_cons (pv 0) (pa_cons (pv 4) pa_nil)))))
        pss_nil)
      (pss_cons (ps_if (pt_cmpR (op_inU (K := Z.K) rfl hr) (pv 2) (pe_tupF (pa_cons pe_int (pa_cons pe_int (pa_cons pe_int pa_nil)))) rfl)
        (pss_one (ps_set (i := 7) scTwo.nd rfl (by first | exact Or.inl rfl | exact Or.inr rfl) (pe_callA (F := F) (n := 2) hBlk rfl rfl rfl rfl rfl rfl (hr.mono (by decide)) (by rfl) (pa_cons (pv 0) (pa_cons (pv 4) pa_nil)))))
        pss_nil)
      (pss_cons (ps_if (pt_cmpR (op_gtU (K := Z.K) rfl hr) (pv 2) pe_int (nomark _))
        (pss_cons (ps_setLcCA (i := 7) (own := [("_law_sign", 6)]) (vs := [6]) rfl rfl scTwo.nd rfl rfl (sw_true rfl rfl rfl (by decide +kernel)) (pi_U (K := Z.K) rfl (pv 7)) (blkOk_by (N := ["_law_tap_here", "_law_most", "_law_way", "_law_many", "_law_one", "_law_newer", "_law_sign", "_law_other"]) (sc := defScope sTwo) (by decide +kernel)) (fun _ _ _ _ _ => (pg_name (i := 6) scTwo.nd rfl (by first | exact Or.inl rfl | exact Or.inr rfl))) (fun _ _ _ _ _ => (pts_one (pt_cmpR (op_gtU (K := Z.K) rfl hr) (pe_callA (F := F) (n := 2) hPick rfl rfl rfl rfl rfl rfl (hr.mono (by decide)) (by rfl) (pa_cons (pv 0) (pa_cons pe_int pa_nil))) pe_int (nomark _)))) (fun _ _ _ _ _ => (pv 6)))
      (pss_cons (ps_for PassesOwn.never rfl (pi_U (K := Z.K) rfl (pv 5)) (pg_name (i := 6) scTwo.nd rfl (by first | exact Or.inl rfl | exact Or.inr rfl))
        (pss_one (ps_expr (pe_bmA (K := Z.K) rfl PySem.F.plainAttrs_list PySem.F.slot_list_insert PySem.F.type_list_insert mt_insertA (pv 7) (pa_cons (pe_callA (F := F) (n := 2) hPick rfl rfl rfl rfl rfl rfl (hr.mono (by decide)) (by rfl) (pa_cons (pv 0) (pa_cons (pe_op (op_addU (K := Z.K) rfl) (pe_callB (call_lenU (K := Z.K) rfl) (by rfl) m_len PySem.boot_len (pa_cons (pv 7) pa_nil)) pe_int) pa_nil))) (pa_cons (pv 6) pa_nil))))))
      (pss_one (ps_set (i := 7) scTwo.nd rfl (by first | exact Or.inl rfl | exact Or.inr rfl) (pe_slice (sl_U (K := Z.K) rfl) (pv 7) po_none (po_some (pv 1)))))))
        pss_nil)
      (pss_cons (ps_if (pt_cmpR (op_eqU (K := Z.K) rfl hr) (pv 2) pe_int (nomark _))
        (pss_one (ps_set (i := 7) scTwo.nd rfl (by first | exact Or.inl rfl | exact Or.inr rfl) (pv 5)))
        pss_nil)
      (pss_cons (ps_if (pt_cmpR (op_eqU (K := Z.K) rfl hr) (pe_callA (F := F) (n := 2) hPick rfl rfl rfl rfl rfl rfl (hr.mono (by decide)) (by rfl) (pa_cons (pv 0) (pa_cons pe_int pa_nil))) pe_int (nomark _))
        (pss_one (ps_asT (ps_asg (pe_tupF (pa_cons (pv 7) (pa_cons (pv 4) pa_nil))) (pg_tupA (n := 2) (K := Z.K) rfl rfl (pgs_cons (pg_name (i := 4) scTwo.nd rfl (by first | exact Or.inl rfl | exact Or.inr rfl)) (pgs_cons (pg_name (i := 7) scTwo.nd rfl (by first | exact Or.inl rfl | exact Or.inr rfl)) pgs_nil))))))
        pss_nil)
      (pss_one (ps_ret (pe_tupF (pa_cons (pe_callTy (call_tupleU (K := Z.K) rfl) (by rfl) m_tuple PyProof.Rows.boot_tuple (pa_cons (pv 4) pa_nil)) (pa_cons (pe_callTy (call_tupleU (K := Z.K) rfl) (by rfl) m_tuple PyProof.Rows.boot_tuple (pa_cons (pv 7) pa_nil)) pa_nil)))))))))))))))), ?_⟩
  exact inferInstance
theorem ok_Long {f c : Addr} {fd : FuncData} (D : Def Z.K "_law_longest" sLong f c fd) (bd : Binds Z.K fd ["_law_one", "_law_other"] []) (gl : mg "_law_longest" = some (.ref f)) (m_max : mg "max" = none) :
    CalF P w Z mg base "_law_longest" 2 ["_law_one", "_law_other"] (aFn 8 p56Long) := by
  refine ⟨f, fd, D.kp, bd, gl, fnA (k := 1) D scLong fun A outer s H F hr => ?_⟩
  refine ⟨_, (pss_cons (ps_set (i := 2) scLong.nd rfl (by first | exact Or.inl rfl | exact Or.inr rfl) (pe_lstC pa_nil))
      (pss_cons (ps_for PassesOwn.never rfl (pi_U (K := Z.K) rfl (pe_revF (K := Z.K) rfl (pv 0))) (pg_name (i := 3) scLong.nd rfl (by first | exact Or.inl rfl | exact Or.inr rfl))
        (pss_one (ps_if (pt_cmpR (op_inU (K := Z.K) rfl hr) (pv 3) (pv 1) rfl)
        (pss_cons (ps_set (i := 4) scLong.nd rfl (by first | exact Or.inl rfl | exact Or.inr rfl) (pe_bmT PySem.F.slot_tuple_index PySem.F.type_tuple_index (mt_idxT (K := Z.K) rfl (Room.u65 hr)) (pv 1) (pa_cons (pv 3) pa_nil)))
      (pss_cons (ps_setLcA (i := 5) (own := [("_law_many", 6), ("_law_earlier", 7)]) (vs := [6, 7]) rfl rfl scLong.nd rfl rfl (sw_true rfl rfl rfl (by decide +kernel)) (pi_U (K := Z.K) rfl (pv 2)) (blkOk_by (N := ["_law_one", "_law_other", "_law_found", "_law_sign", "_law_place", "_law_behind", "_law_many", "_law_earlier"]) (sc := defScope sLong) (by decide +kernel)) (fun _ _ _ _ _ => (pg_tupA (n := 2) (K := Z.K) rfl rfl (pgs_cons (pg_name (i := 6) scLong.nd rfl (by first | exact Or.inl rfl | exact Or.inr rfl)) (pgs_cons (pg_name (i := 7) scLong.nd rfl (by first | exact Or.inl rfl | exact Or.inr rfl)) pgs_nil)))) (fun _ _ _ _ _ => (pts_one (pt_cmpR (op_gtU (K := Z.K) rfl hr) (pv 7) (pv 4) (nomark _)))) (fun _ _ _ _ _ => (pv 6)))
      (pss_one (ps_expr (pe_bmA (K := Z.K) rfl PySem.F.plainAttrs_list PySem.F.slot_list_append PySem.F.type_list_append mt_append (pv 2) (pa_cons (pe_tupF (pa_cons (pe_op (op_addU (K := Z.K) rfl) pe_int (pe_callBK (call_maxA (K := Z.K) rfl rfl hr) (by rfl) m_max boot_max (pa_cons (pv 5) pa_nil) (pk_cons pe_int pk_nil))) (pa_cons (pv 4) pa_nil))) pa_nil))))))
        pss_nil)))
      (pss_one (ps_ret (pe_callBK (call_maxA (K := Z.K) rfl rfl hr) (by rfl) m_max boot_max (pa_cons (pe_lcA (own := [("_law_many", 6), ("_law_place", 4)]) (vs := [6, 4]) rfl rfl scLong.nd (pi_U (K := Z.K) rfl (pv 2)) (blkOk_by (N := ["_law_one", "_law_other", "_law_found", "_law_sign", "_law_place", "_law_behind", "_law_many", "_law_earlier"]) (sc := defScope sLong) (by decide +kernel)) (fun _ _ _ _ _ => (pg_tupA (n := 2) (K := Z.K) rfl rfl (pgs_cons (pg_name (i := 6) scLong.nd rfl (by first | exact Or.inl rfl | exact Or.inr rfl)) (pgs_cons (pg_name (i := 4) scLong.nd rfl (by first | exact Or.inl rfl | exact Or.inr rfl)) pgs_nil)))) (fun _ _ _ _ _ => pts_nil) (fun _ _ _ _ _ => (pv 6))) pa_nil) (pk_cons pe_int pk_nil)))))), ?_⟩
  exact inferInstance
theorem ok_Isf {f c : Addr} {fd : FuncData} {fLong : AF} (D : Def Z.K "_law_is_falling" sIsf f c fd) (bd : Binds Z.K fd ["_law_one", "_law_other", "_law_told"] []) (gl : mg "_law_is_falling" = some (.ref f)) (m_isinstance : mg "isinstance" = none) (m_len : mg "len" = none) (m_range : mg "range" = none) (m_repr : mg "repr" = none) (m_sorted : mg "sorted" = none) (m_tuple : mg "tuple" = none) (hLong : CalF P w Z mg base "_law_longest" 2 ["_law_one", "_law_other"] fLong) :
    CalG P w Z mg base "_law_is_falling" 4 ["_law_one", "_law_other", "_law_told"] (aFn 12 (p56Isf fLong)) := by
  refine ⟨f, fd, D.kp, bd, gl, fnG (k := 3) D scIsf fun A outer s H F hr hg => ?_⟩
  have hgu : (A.deeper (envOfC "_law_is_falling" (defScope sIsf) s.heap.objs.size f (.ref c))).guards = some [] := hg
  refine ⟨_, (pss_cons (ps_if (PW.pt (pw_or (pt_not (pt_val (pe_isiA (n := "tuple") (p1 := ⟨0, 0, 0, 0⟩) (K := Z.K) rfl (by rfl) m_isinstance (pv 2) (by rfl) m_tuple (by decide +kernel) (by decide) (by decide) rfl rfl rfl))) (pw_or1 (pt_cmpR (op_neU (K := Z.K) rfl hr) (pe_callB (call_lenU (K := Z.K) rfl) (by rfl) m_len PySem.boot_len (pa_cons (pv 2) pa_nil)) (pe_callA (F := F) (n := 2) hLong rfl rfl rfl rfl rfl rfl (hr.mono (by decide)) (by rfl) (pa_cons (pv 0) (pa_cons (pv 1) pa_nil))) (nomark _)))))
        (pss_one (ps_ret pe_bl))
        pss_nil)
      (pss_cons (ps_asg (pe_tupF (pa_cons (pe_lcA (own := [("_law_sign", 5)]) (vs := [5]) rfl rfl scIsf.nd (pi_U (K := Z.K) rfl (pv 0)) (blkOk_by (N := ["_law_one", "_law_other", "_law_told", "_law_names", "_law_others", "_law_sign", "_law_seen", "_law_row", "_law_texts", "_law_texted", "_law_k", "_law_name"]) (sc := defScope sIsf) (by decide +kernel)) (fun _ _ _ _ _ => (pg_name (i := 5) scIsf.nd rfl (by first | exact Or.inl rfl | exact Or.inr rfl))) (fun _ _ _ _ _ => pts_nil) (fun _ _ _ _ _ => (pe_callB (call_reprU (K := Z.K) rfl hgu hr) (by rfl) m_repr boot_repr (pa_cons (pv 5) pa_nil)))) (pa_cons (pe_lcA (own := [("_law_sign", 5)]) (vs := [5]) rfl rfl scIsf.nd (pi_U (K := Z.K) rfl (pv 1)) (blkOk_by (N := ["_law_one", "_law_other", "_law_told", "_law_names", "_law_others", "_law_sign", "_law_seen", "_law_row", "_law_texts", "_law_texted", "_law_k", "_law_name"]) (sc := defScope sIsf) (by decide +kernel)) (fun _ _ _ _ _ => (pg_name (i := 5) scIsf.nd rfl (by first | exact Or.inl rfl | exact Or.inr rfl))) (fun _ _ _ _ _ => pts_nil) (fun _ _ _ _ _ => (pe_callB (call_reprU (K := Z.K) rfl hgu hr) (by rfl) m_repr boot_repr (pa_cons (pv 5) pa_nil)))) pa_nil))) (pg_tupA (n := 2) (K := Z.K) rfl rfl (pgs_cons (pg_name (i := 3) scIsf.nd rfl (by first | exact Or.inl rfl | exact Or.inr rfl)) (pgs_cons (pg_name (i := 4) scIsf.nd rfl (by first | exact Or.inl rfl | exact Or.inr rfl)) pgs_nil))))
      (pss_cons (ps_set (i := 6) scIsf.nd rfl (by first | exact Or.inl rfl | exact Or.inr rfl) (pe_lstC pa_nil))
      (pss_cons (ps_for PassesOwn.never rfl (pi_U (K := Z.K) rfl (pv 2)) (pg_name (i := 7) scIsf.nd rfl (by first | exact Or.inl rfl | exact Or.inr rfl))
        (pss_cons (ps_if (PW.pt (pw_or (pt_not (pt_val (pe_isiA (n := "tuple") (p1 := ⟨0, 0, 0, 0⟩) (K := Z.K) rfl (by rfl) m_isinstance (pv 7) (by rfl) m_tuple (by decide +kernel) (by decide) (by decide) rfl rfl rfl))) (pw_or1 (pt_cmpR (op_eqU (K := Z.K) rfl hr) (pe_callB (call_lenU (K := Z.K) rfl) (by rfl) m_len PySem.boot_len (pa_cons (pv 7) pa_nil)) pe_int (nomark _)))))
        (pss_one (ps_ret pe_bl))
        pss_nil)
      (pss_cons (ps_setLcCA (i := 8) (own := [("_law_sign", 5)]) (vs := [5]) rfl rfl scIsf.nd rfl rfl (sw_true rfl rfl rfl (by decide +kernel)) (pi_U (K := Z.K) rfl (pv 7)) (blkOk_by (N := ["_law_one", "_law_other", "_law_told", "_law_names", "_law_others", "_law_sign", "_law_seen", "_law_row", "_law_texts", "_law_texted", "_law_k", "_law_name"]) (sc := defScope sIsf) (by decide +kernel)) (fun _ _ _ _ _ => (pg_name (i := 5) scIsf.nd rfl (by first | exact Or.inl rfl | exact Or.inr rfl))) (fun _ _ _ _ _ => pts_nil) (fun _ _ _ _ _ => (pe_callB (call_reprU (K := Z.K) rfl hgu hr) (by rfl) m_repr boot_repr (pa_cons (pv 5) pa_nil))))
      (pss_cons (ps_if (pt_cmpR (op_neU (K := Z.K) rfl hr) (pe_lcA (own := [("_law_texted", 9)]) (vs := [9]) rfl rfl scIsf.nd (pi_U (K := Z.K) rfl (pv 8)) (blkOk_by (N := ["_law_one", "_law_other", "_law_told", "_law_names", "_law_others", "_law_sign", "_law_seen", "_law_row", "_law_texts", "_law_texted", "_law_k", "_law_name"]) (sc := defScope sIsf) (by decide +kernel)) (fun _ _ _ _ _ => (pg_name (i := 9) scIsf.nd rfl (by first | exact Or.inl rfl | exact Or.inr rfl))) (fun _ _ _ _ _ => (pts_one (PW.pt (pw_or (pt_cmpR (op_notInU (K := Z.K) rfl hr) (pv 9) (pv 3) rfl) (pw_or1 (pt_cmpR (op_notInU (K := Z.K) rfl hr) (pv 9) (pv 4) rfl)))))) (fun _ _ _ _ _ => (pv 9))) (pe_lst pa_nil) (nomark _))
        (pss_one (ps_ret pe_bl))
        pss_nil)
      (pss_cons (ps_for PassesOwn.never rfl (pi_range2 (by rfl) m_range (pa_cons pe_int (pa_cons (pe_callB (call_lenU (K := Z.K) rfl) (by rfl) m_len PySem.boot_len (pa_cons (pv 8) pa_nil)) pa_nil))) (pg_name (i := 10) scIsf.nd rfl (by first | exact Or.inl rfl | exact Or.inr rfl))
        (pss_cons (ps_if (pt_cmpR (op_geU (K := Z.K) rfl hr) (pe_bmA (K := Z.K) rfl PySem.F.plainAttrs_list PySem.F.slot_list_index PySem.F.type_list_index (mt_idxL (K := Z.K) rfl (Room.u65 hr)) (pv 3) (pa_cons (pe_ixA (K := Z.K) rfl hr (pv 8) (pe_op op_subU (pv 10) pe_int) (fun _ _ => rfl)) pa_nil)) (pe_bmA (K := Z.K) rfl PySem.F.plainAttrs_list PySem.F.slot_list_index PySem.F.type_list_index (mt_idxL (K := Z.K) rfl (Room.u65 hr)) (pv 3) (pa_cons (pe_ixA (K := Z.K) rfl hr (pv 8) (pv 10) (fun _ _ => rfl)) pa_nil)) (nomark _))
        (pss_one (ps_ret pe_bl))
        pss_nil)
      (pss_one (ps_if (pt_cmpR (op_leU (K := Z.K) rfl hr) (pe_bmA (K := Z.K) rfl PySem.F.plainAttrs_list PySem.F.slot_list_index PySem.F.type_list_index (mt_idxL (K := Z.K) rfl (Room.u65 hr)) (pv 4) (pa_cons (pe_ixA (K := Z.K) rfl hr (pv 8) (pe_op op_subU (pv 10) pe_int) (fun _ _ => rfl)) pa_nil)) (pe_bmA (K := Z.K) rfl PySem.F.plainAttrs_list PySem.F.slot_list_index PySem.F.type_list_index (mt_idxL (K := Z.K) rfl (Room.u65 hr)) (pv 4) (pa_cons (pe_ixA (K := Z.K) rfl hr (pv 8) (pv 10) (fun _ _ => rfl)) pa_nil)) (nomark _))
        (pss_one (ps_ret pe_bl))
        pss_nil))))
      (pss_one (ps_expr (pe_bmA (K := Z.K) rfl PySem.F.plainAttrs_list PySem.F.slot_list_extend PySem.F.type_list_extend mt_extend (pv 6) (pa_cons (pv 8) pa_nil)))))))))
      (pss_one (ps_ret (pe_cmpR (op_eqU (K := Z.K) rfl hr) (pe_callB (call_sortSA (K := Z.K) rfl rfl hr) (by rfl) m_sorted boot_sorted (pa_cons (pv 6) pa_nil)) (pe_callB (call_sortSA (K := Z.K) rfl rfl hr) (by rfl) m_sorted boot_sorted (pa_cons (pe_lcA (own := [("_law_name", 11)]) (vs := [11]) rfl rfl scIsf.nd (pi_U (K := Z.K) rfl (pv 3)) (blkOk_by (N := ["_law_one", "_law_other", "_law_told", "_law_names", "_law_others", "_law_sign", "_law_seen", "_law_row", "_law_texts", "_law_texted", "_law_k", "_law_name"]) (sc := defScope sIsf) (by decide +kernel)) (fun _ _ _ _ _ => (pg_name (i := 11) scIsf.nd rfl (by first | exact Or.inl rfl | exact Or.inr rfl))) (fun _ _ _ _ _ => (pts_one (pt_cmpR (op_inU (K := Z.K) rfl hr) (pv 11) (pv 4) rfl))) (fun _ _ _ _ _ => (pv 11))) pa_nil)) (nomark _)))))))), ?_⟩
  exact inferInstance
theorem ok_Law {f c : Addr} {fd : FuncData} {fFall fIsf fTwo fTap : AF} (D : Def Z.K "law" sLaw f c fd) (bd : Binds Z.K fd ["_law_script"] []) (gl : mg "law" = some (.ref f)) (m_repr : mg "repr" = none) (hFall : CalF P w Z mg base "falling_rows" 6 ["one", "other"] fFall) (hIsf : CalG P w Z mg base "_law_is_falling" 4 ["_law_one", "_law_other", "_law_told"] fIsf) (hTwo : CalF P w Z mg base "_law_two" 8 ["_law_tap_here", "_law_most"] fTwo) (hTap : CalF P w Z mg base "_law_tap" 2 ["_law_script"] fTap) :
    FnG P w Z.K mg base 10 f fd ["_law_script"] (spA Z 1 (aFn 6 (p56Law fFall fIsf fTwo fTap))) := by
  refine fnG (k := 9) D scLaw fun A outer s H F hr hg => ?_
  have hgu : (A.deeper (envOfC "law" (defScope sLaw) s.heap.objs.size f (.ref c))).guards = some [] := hg
  refine ⟨_, (pss_cons (ps_set (i := 1) scLaw.nd rfl (by first | exact Or.inl rfl | exact Or.inr rfl) (pe_callA (F := F) (n := 1) hTap rfl rfl rfl rfl rfl rfl (hr.mono (by decide)) (by rfl) (pa_cons (pv 0) pa_nil)))
      (pss_cons (ps_asg (pe_callA (F := F) (n := 2) hTwo rfl rfl rfl rfl rfl rfl (hr.mono (by decide)) (by rfl) (pa_cons (pv 1) (pa_cons pe_int pa_nil))) (pg_tupA (n := 2) (K := Z.K) rfl rfl (pgs_cons (pg_name (i := 2) scLaw.nd rfl (by first | exact Or.inl rfl | exact Or.inr rfl)) (pgs_cons (pg_name (i := 3) scLaw.nd rfl (by first | exact Or.inl rfl | exact Or.inr rfl)) pgs_nil))))
      (pss_cons (ps_for PassesOwn.never rfl (pi_U (K := Z.K) rfl (pe_tupF (pa_cons (pe_tupF (pa_cons (pv 2) (pa_cons (pv 3) pa_nil))) (pa_cons (pe_tupF (pa_cons (pv 3) (pa_cons (pv 2) pa_nil))) (pa_cons (pe_tupF (pa_cons (pv 2) (pa_cons (pv 3) pa_nil))) pa_nil))))) (pg_tupA (n := 2) (K := Z.K) rfl rfl (pgs_cons (pg_name (i := 4) scLaw.nd rfl (by first | exact Or.inl rfl | exact Or.inr rfl)) (pgs_cons (pg_name (i := 5) scLaw.nd rfl (by first | exact Or.inl rfl | exact Or.inr rfl)) pgs_nil)))
        (pss_one (ps_if (pt_not (pt_val (pe_callGA (F := F) (n := 3) hIsf rfl rfl rfl rfl rfl rfl (hr.mono (by decide)) hgu (by rfl) (pa_cons (pv 4) (pa_cons (pv 5) (pa_cons (pe_callA (F := F) (n := 2) hFall rfl rfl rfl rfl rfl rfl (hr.mono (by decide)) (by rfl) (pa_cons (pv 4) (pa_cons (pv 5) pa_nil))) pa_nil))))))
        (pss_one (ps_ret pe_bl))
        pss_nil)))
      (pss_cons (ps_if (pt_not (pt_val (pe_callGA (F := F) (n := 3) hIsf rfl rfl rfl rfl rfl rfl (hr.mono (by decide)) hgu (by rfl) (pa_cons (pv 2) (pa_cons (pv 2) (pa_cons (pe_callA (F := F) (n := 2) hFall rfl rfl rfl rfl rfl rfl (hr.mono (by decide)) (by rfl) (pa_cons (pv 2) (pa_cons (pv 2) pa_nil))) pa_nil))))))
        (pss_one (ps_ret pe_bl))
        pss_nil)
      (pss_one (ps_ret (pe_and (pe_cmpR (op_eqU (K := Z.K) rfl hr) (pe_callB (call_reprU (K := Z.K) rfl hgu hr) (by rfl) m_repr boot_repr (pa_cons (pe_callA (F := F) (n := 2) hFall rfl rfl rfl rfl rfl rfl (hr.mono (by decide)) (by rfl) (pa_cons (pv 2) (pa_cons (pe_tupF pa_nil) pa_nil))) pa_nil)) (pe_callB (call_reprU (K := Z.K) rfl hgu hr) (by rfl) m_repr boot_repr (pa_cons (pe_tupF pa_nil) pa_nil)) (nomark _)) (pe_one (pe_cmpR (op_eqU (K := Z.K) rfl hr) (pe_callB (call_reprU (K := Z.K) rfl hgu hr) (by rfl) m_repr boot_repr (pa_cons (pe_callA (F := F) (n := 2) hFall rfl rfl rfl rfl rfl rfl (hr.mono (by decide)) (by rfl) (pa_cons (pe_tupF pa_nil) (pa_cons (pv 3) pa_nil))) pa_nil)) (pe_callB (call_reprU (K := Z.K) rfl hgu hr) (by rfl) m_repr boot_repr (pa_cons (pe_tupF pa_nil) pa_nil)) (nomark _)))))))))), ?_⟩
  exact inferInstance
end
end K56

set_option maxHeartbeats 4000000
namespace K56
open PySem PySem.Spec PyProof.Rows L2 Mw Aw Lw
theorem _root_.Mw.tabIn_of {K : PySem.W.Frag} {x : Str} {f c Q : Addr} {oc e : Value} {od dd : Option Addr} {fd : FuncData} {sl sl2 : Array (Option Value)} {vs : Array Value} (a : PySem.W.nsIn K mainGlobals x = some (some (.ref f)))
    (l : K.lookup f = some ⟨oc, od, .func fd, sl⟩) (hc : fd.code = .ref c) (lc : K.lookup c = some ⟨e, dd, .fields vs, sl2⟩) (hv : vs[11]? = some (.ref Q)) : PySem.W.tabIn K x = some (c, Q) := by
  unfold PySem.W.tabIn
  rw [a]
  simp only [l, hc, lc, hv]
theorem all_mk {l : PySem.W.OpenLaw} {w : World} {K : PySem.W.Frag} {h : Heap} {mg : Str → Option Value} {fa f1 f2 f3 f4 f5 f6 f7 f8 f9 f10 f11 f12 f13 c1 c2 c3 c4 c5 c6 c7 c8 c9 c10 c11 c12 c13  : Addr}
    {od1 an1 od2 an2 od3 an3 od4 an4 od5 an5 od6 an6 od7 an7 od8 an8 od9 an9 od10 an10 od11 an11 od12 an12 od13 an13 : Option Addr} {sl1 sl2 sl3 sl4 sl5 sl6 sl7 sl8 sl9 sl10 sl11 sl12 sl13 : Array (Option Value)} {oc1 kV1 dc1 pm1 ct1 oc2 kV2 dc2 pm2 ct2 oc3 kV3 dc3 pm3 ct3 oc4 kV4 dc4 pm4 ct4 oc5 kV5 dc5 pm5 ct5 oc6 kV6 dc6 pm6 ct6 oc7 kV7 dc7 pm7 ct7 oc8 kV8 dc8 pm8 ct8 oc9 kV9 dc9 pm9 ct9 oc10 kV10 dc10 pm10 ct10 oc11 kV11 dc11 pm11 ct11 oc12 kV12 dc12 pm12 ct12 oc13 kV13 dc13 pm13 ct13 : Value}
    (X : K.In h) (G : h.Ns mainGlobals mg) (hfa : mg "law" = some (.ref fa)) 
    (a1 : PySem.W.nsIn K mainGlobals "common_places" = some (some (.ref f1))) (l1 : K.lookup f1 = some ⟨oc1, od1, .func (PySem.W.fnOf "common_places" "common_places" (defArgs sCpl) (defBody sCpl) (defScope sCpl) .none kV1 dc1 pm1 an1 (.ref c1) ct1), sl1⟩) (d1 : PySem.W.codeIn K (.ref c1) "common_places" = true) (k1 : PySem.W.keepIn K (.ref f1) = true)
    (a2 : PySem.W.nsIn K mainGlobals "levels" = some (some (.ref f2))) (l2 : K.lookup f2 = some ⟨oc2, od2, .func (PySem.W.fnOf "levels" "levels" (defArgs sLev) (defBody sLev) (defScope sLev) .none kV2 dc2 pm2 an2 (.ref c2) ct2), sl2⟩) (d2 : PySem.W.codeIn K (.ref c2) "levels" = true) (k2 : PySem.W.keepIn K (.ref f2) = true)
    (a3 : PySem.W.nsIn K mainGlobals "falling_rows" = some (some (.ref f3))) (l3 : K.lookup f3 = some ⟨oc3, od3, .func (PySem.W.fnOf "falling_rows" "falling_rows" (defArgs sFall) (defBody sFall) (defScope sFall) .none kV3 dc3 pm3 an3 (.ref c3) ct3), sl3⟩) (d3 : PySem.W.codeIn K (.ref c3) "falling_rows" = true) (k3 : PySem.W.keepIn K (.ref f3) = true)
    (a4 : PySem.W.nsIn K mainGlobals "_law_tap" = some (some (.ref f4))) (l4 : K.lookup f4 = some ⟨oc4, od4, .func (PySem.W.fnOf "_law_tap" "_law_tap" (defArgs sTap) (defBody sTap) (defScope sTap) .none kV4 dc4 pm4 an4 (.ref c4) ct4), sl4⟩) (d4 : PySem.W.codeIn K (.ref c4) "_law_tap" = true) (k4 : PySem.W.keepIn K (.ref f4) = true)
    (a5 : PySem.W.nsIn K mainGlobals "_law_pick" = some (some (.ref f5))) (l5 : K.lookup f5 = some ⟨oc5, od5, .func (PySem.W.fnOf "_law_pick" "_law_pick" (defArgs sPick) (defBody sPick) (defScope sPick) .none kV5 dc5 pm5 an5 (.ref c5) ct5), sl5⟩) (d5 : PySem.W.codeIn K (.ref c5) "_law_pick" = true) (k5 : PySem.W.keepIn K (.ref f5) = true)
    (a6 : PySem.W.nsIn K mainGlobals "_law_word" = some (some (.ref f6))) (l6 : K.lookup f6 = some ⟨oc6, od6, .func (PySem.W.fnOf "_law_word" "_law_word" (defArgs sWord) (defBody sWord) (defScope sWord) .none kV6 dc6 pm6 an6 (.ref c6) ct6), sl6⟩) (d6 : PySem.W.codeIn K (.ref c6) "_law_word" = true) (k6 : PySem.W.keepIn K (.ref f6) = true)
    (a7 : PySem.W.nsIn K mainGlobals "_law_signs" = some (some (.ref f7))) (l7 : K.lookup f7 = some ⟨oc7, od7, .func (PySem.W.fnOf "_law_signs" "_law_signs" (defArgs sSigns) (defBody sSigns) (defScope sSigns) .none kV7 dc7 pm7 an7 (.ref c7) ct7), sl7⟩) (d7 : PySem.W.codeIn K (.ref c7) "_law_signs" = true) (k7 : PySem.W.keepIn K (.ref f7) = true)
    (a8 : PySem.W.nsIn K mainGlobals "_law_shuffled" = some (some (.ref f8))) (l8 : K.lookup f8 = some ⟨oc8, od8, .func (PySem.W.fnOf "_law_shuffled" "_law_shuffled" (defArgs sShuf) (defBody sShuf) (defScope sShuf) .none kV8 dc8 pm8 an8 (.ref c8) ct8), sl8⟩) (d8 : PySem.W.codeIn K (.ref c8) "_law_shuffled" = true) (k8 : PySem.W.keepIn K (.ref f8) = true)
    (a9 : PySem.W.nsIn K mainGlobals "_law_blocks" = some (some (.ref f9))) (l9 : K.lookup f9 = some ⟨oc9, od9, .func (PySem.W.fnOf "_law_blocks" "_law_blocks" (defArgs sBlk) (defBody sBlk) (defScope sBlk) .none kV9 dc9 pm9 an9 (.ref c9) ct9), sl9⟩) (d9 : PySem.W.codeIn K (.ref c9) "_law_blocks" = true) (k9 : PySem.W.keepIn K (.ref f9) = true)
    (a10 : PySem.W.nsIn K mainGlobals "_law_two" = some (some (.ref f10))) (l10 : K.lookup f10 = some ⟨oc10, od10, .func (PySem.W.fnOf "_law_two" "_law_two" (defArgs sTwo) (defBody sTwo) (defScope sTwo) .none kV10 dc10 pm10 an10 (.ref c10) ct10), sl10⟩) (d10 : PySem.W.codeIn K (.ref c10) "_law_two" = true) (k10 : PySem.W.keepIn K (.ref f10) = true)
    (a11 : PySem.W.nsIn K mainGlobals "_law_longest" = some (some (.ref f11))) (l11 : K.lookup f11 = some ⟨oc11, od11, .func (PySem.W.fnOf "_law_longest" "_law_longest" (defArgs sLong) (defBody sLong) (defScope sLong) .none kV11 dc11 pm11 an11 (.ref c11) ct11), sl11⟩) (d11 : PySem.W.codeIn K (.ref c11) "_law_longest" = true) (k11 : PySem.W.keepIn K (.ref f11) = true)
    (a12 : PySem.W.nsIn K mainGlobals "_law_is_falling" = some (some (.ref f12))) (l12 : K.lookup f12 = some ⟨oc12, od12, .func (PySem.W.fnOf "_law_is_falling" "_law_is_falling" (defArgs sIsf) (defBody sIsf) (defScope sIsf) .none kV12 dc12 pm12 an12 (.ref c12) ct12), sl12⟩) (d12 : PySem.W.codeIn K (.ref c12) "_law_is_falling" = true) (k12 : PySem.W.keepIn K (.ref f12) = true)
    (a13 : PySem.W.nsIn K mainGlobals "law" = some (some (.ref f13))) (l13 : K.lookup f13 = some ⟨oc13, od13, .func (PySem.W.fnOf "law" "law" (defArgs sLaw) (defBody sLaw) (defScope sLaw) .none kV13 dc13 pm13 an13 (.ref c13) ct13), sl13⟩) (d13 : PySem.W.codeIn K (.ref c13) "law" = true) (k13 : PySem.W.keepIn K (.ref f13) = true)
    (z0 : PySem.W.nsIn K mainGlobals "enumerate" = some none)
    (z1 : PySem.W.nsIn K mainGlobals "isinstance" = some none)
    (z2 : PySem.W.nsIn K mainGlobals "len" = some none)
    (z3 : PySem.W.nsIn K mainGlobals "list" = some none)
    (z4 : PySem.W.nsIn K mainGlobals "max" = some none)
    (z5 : PySem.W.nsIn K mainGlobals "min" = some none)
    (z6 : PySem.W.nsIn K mainGlobals "range" = some none)
    (z7 : PySem.W.nsIn K mainGlobals "repr" = some none)
    (z8 : PySem.W.nsIn K mainGlobals "sorted" = some none)
    (z9 : PySem.W.nsIn K mainGlobals "tuple" = some none) :
    ∃ (fd : FuncData) (cs : List (Addr × Addr)) (sp : Sp), (∀ p ∈ cs, h.get? p.2 = some tb0 ∧ K.lookup p.2 = none ∧ PySem.W.CodeHd h p.1 p.2) ∧
      (∀ (s : Shared) (u : Value), BindsTo s fd ⟨[u], []⟩ [("_law_script", u)]) ∧
      (∀ (H : Hp) (a : Addr) (ns : List Int), ns.length ≤ 63 → (∀ z ∈ ns, Builtin.Int.intBits z ≤ 1048576) → (∀ p ∈ cs, H p.2 = some (.tbl #[])) → SqL K H a (ns.map V.int) → sp [.ref a] H (fun v _ => v = .bl true) fun _ _ _ => False) ∧
      ∀ base : Heap, K.In base → base.Ns mainGlobals mg → (∀ p ∈ cs, GxR.TabB base mg p.1 p.2) → FnG l.prog w K mg base 10 fa fd ["_law_script"] sp := by
  have e := hfa.symm.trans (PySem.W.mg_of X G a13)
  cases e
  have DCpl := Def.mk' (st := sCpl) l1 d1 k1
  have bdCpl := DCpl.binds (ps := ["one", "other"]) fun _ _ _ _ _ us hl => match us, hl with | [_, _], _ => rfl
  have glCpl := PySem.W.mg_of X G a1
  have DLev := Def.mk' (st := sLev) l2 d2 k2
  have bdLev := DLev.binds (ps := ["one", "other"]) fun _ _ _ _ _ us hl => match us, hl with | [_, _], _ => rfl
  have glLev := PySem.W.mg_of X G a2
  have DFall := Def.mk' (st := sFall) l3 d3 k3
  have bdFall := DFall.binds (ps := ["one", "other"]) fun _ _ _ _ _ us hl => match us, hl with | [_, _], _ => rfl
  have glFall := PySem.W.mg_of X G a3
  have DTap := Def.mk' (st := sTap) l4 d4 k4
  have bdTap := DTap.binds (ps := ["_law_script"]) fun _ _ _ _ _ us hl => match us, hl with | [_], _ => rfl
  have glTap := PySem.W.mg_of X G a4
  have DPick := Def.mk' (st := sPick) l5 d5 k5
  have bdPick := DPick.binds (ps := ["_law_tap_here", "_law_many"]) fun _ _ _ _ _ us hl => match us, hl with | [_, _], _ => rfl
  have glPick := PySem.W.mg_of X G a5
  have DWord := Def.mk' (st := sWord) l6 d6 k6
  have bdWord := DWord.binds (ps := ["_law_tap_here"]) fun _ _ _ _ _ us hl => match us, hl with | [_], _ => rfl
  have glWord := PySem.W.mg_of X G a6
  have DSigns := Def.mk' (st := sSigns) l7 d7 k7
  have bdSigns := DSigns.binds (ps := ["_law_tap_here", "_law_many"]) fun _ _ _ _ _ us hl => match us, hl with | [_, _], _ => rfl
  have glSigns := PySem.W.mg_of X G a7
  have DShuf := Def.mk' (st := sShuf) l8 d8 k8
  have bdShuf := DShuf.binds (ps := ["_law_tap_here", "_law_some"]) fun _ _ _ _ _ us hl => match us, hl with | [_, _], _ => rfl
  have glShuf := PySem.W.mg_of X G a8
  have DBlk := Def.mk' (st := sBlk) l9 d9 k9
  have bdBlk := DBlk.binds (ps := ["_law_tap_here", "_law_some"]) fun _ _ _ _ _ us hl => match us, hl with | [_, _], _ => rfl
  have glBlk := PySem.W.mg_of X G a9
  have DTwo := Def.mk' (st := sTwo) l10 d10 k10
  have bdTwo := DTwo.binds (ps := ["_law_tap_here", "_law_most"]) fun _ _ _ _ _ us hl => match us, hl with | [_, _], _ => rfl
  have glTwo := PySem.W.mg_of X G a10
  have DLong := Def.mk' (st := sLong) l11 d11 k11
  have bdLong := DLong.binds (ps := ["_law_one", "_law_other"]) fun _ _ _ _ _ us hl => match us, hl with | [_, _], _ => rfl
  have glLong := PySem.W.mg_of X G a11
  have DIsf := Def.mk' (st := sIsf) l12 d12 k12
  have bdIsf := DIsf.binds (ps := ["_law_one", "_law_other", "_law_told"]) fun _ _ _ _ _ us hl => match us, hl with | [_, _, _], _ => rfl
  have glIsf := PySem.W.mg_of X G a12
  have DLaw := Def.mk' (st := sLaw) l13 d13 k13
  have bdLaw := DLaw.binds (ps := ["_law_script"]) fun _ _ _ _ _ us hl => match us, hl with | [_], _ => rfl
  have glLaw := PySem.W.mg_of X G a13
  have m_enumerate := PySem.W.mg_none_of X G z0
  have m_isinstance := PySem.W.mg_none_of X G z1
  have m_len := PySem.W.mg_none_of X G z2
  have m_list := PySem.W.mg_none_of X G z3
  have m_max := PySem.W.mg_none_of X G z4
  have m_min := PySem.W.mg_none_of X G z5
  have m_range := PySem.W.mg_none_of X G z6
  have m_repr := PySem.W.mg_none_of X G z7
  have m_sorted := PySem.W.mg_none_of X G z8
  have m_tuple := PySem.W.mg_none_of X G z9
  obtain ⟨Z, hZ⟩ : ∃ Z : Zx, Z = ⟨K, ⟨[], []⟩, fun _ _ _ _ _ => False⟩ := ⟨_, rfl⟩
  have eK : K = Z.K := by rw [hZ]
  have eT : Z.T = ⟨[], []⟩ := by rw [hZ]
  clear hZ
  subst eK
  refine ⟨PySem.W.fnOf "law" "law" (defArgs sLaw) (defBody sLaw) (defScope sLaw) .none kV13 dc13 pm13 an13 (.ref c13) ct13, [], spA Z 1 (aFn 6 (p56Law f56Fall f56Isf f56Two f56Tap)), fun p hp => ?_, fun s v => .of_eq rfl, fun H a ns h1 _ h2 h3 => ?_, fun base kb nb tb => ?_⟩
  · cases hp
  · refine ⟨rfl, [], [], [.scr ns], fun w _ => w = .d (.bool true), fun _ _ => False, ⟨rfl, .nil, fun i a c hh => (by simp at hh), fun p hp => ?_, fun p hp => (by rw [eT] at hp; cases hp)⟩, .cons ⟨a, rfl, h3, fun z => (by cases z)⟩ .nil, law56_ok ns h1, fun ρ σ H v w g r vw q => ?_, fun _ _ _ _ _ _ _ _ _ q => q.elim⟩
    · rw [eT] at hp; cases hp
    · subst q; exact vw.bool
  · have hCpl : CalF l.prog w Z mg base "common_places" 2 ["one", "other"] f56Cpl := (ok_Cpl (P := l.prog) (w := w) (Z := Z) (mg := mg) (base := base) DCpl bdCpl glCpl m_enumerate).shed cpl56_ok
    have hLev : CalF l.prog w Z mg base "levels" 4 ["one", "other"] f56Lev := (ok_Lev (P := l.prog) (w := w) (Z := Z) (mg := mg) (base := base) DLev bdLev glLev m_max hCpl).shed lev56_ok
    have hFall : CalF l.prog w Z mg base "falling_rows" 6 ["one", "other"] f56Fall := (ok_Fall (P := l.prog) (w := w) (Z := Z) (mg := mg) (base := base) DFall bdFall glFall m_tuple hLev).shed fall56_ok
    have hTap : CalF l.prog w Z mg base "_law_tap" 2 ["_law_script"] f56Tap := (ok_Tap (P := l.prog) (w := w) (Z := Z) (mg := mg) (base := base) DTap bdTap glTap m_list).as tap_ok
    have hPick : CalF l.prog w Z mg base "_law_pick" 2 ["_law_tap_here", "_law_many"] f56Pick := (ok_Pick (P := l.prog) (w := w) (Z := Z) (mg := mg) (base := base) DPick bdPick glPick m_len).as pick_ok
    have hWord : CalF l.prog w Z mg base "_law_word" 4 ["_law_tap_here"] f56Word := (ok_Word (P := l.prog) (w := w) (Z := Z) (mg := mg) (base := base) DWord bdWord glWord m_range hPick).as word_ok
    have hSigns : CalF l.prog w Z mg base "_law_signs" 6 ["_law_tap_here", "_law_many"] f56Signs := (ok_Signs (P := l.prog) (w := w) (Z := Z) (mg := mg) (base := base) DSigns bdSigns glSigns m_len m_range hPick hWord).shed signs_ok
    have hShuf : CalF l.prog w Z mg base "_law_shuffled" 4 ["_law_tap_here", "_law_some"] f56Shuf := (ok_Shuf (P := l.prog) (w := w) (Z := Z) (mg := mg) (base := base) DShuf bdShuf glShuf m_len hPick).shed shuf_ok
    have hBlk : CalF l.prog w Z mg base "_law_blocks" 4 ["_law_tap_here", "_law_some"] f56Blk := (ok_Blk (P := l.prog) (w := w) (Z := Z) (mg := mg) (base := base) DBlk bdBlk glBlk m_len m_list m_max m_min m_range hPick).as blk_ok
    have hTwo : CalF l.prog w Z mg base "_law_two" 8 ["_law_tap_here", "_law_most"] f56Two := (ok_Two (P := l.prog) (w := w) (Z := Z) (mg := mg) (base := base) DTwo bdTwo glTwo m_len m_list m_min m_tuple hPick hBlk hShuf hSigns).shed two_ok
    have hLong : CalF l.prog w Z mg base "_law_longest" 2 ["_law_one", "_law_other"] f56Long := (ok_Long (P := l.prog) (w := w) (Z := Z) (mg := mg) (base := base) DLong bdLong glLong m_max).shed long56_ok
    have hIsf : CalG l.prog w Z mg base "_law_is_falling" 4 ["_law_one", "_law_other", "_law_told"] f56Isf := (ok_Isf (P := l.prog) (w := w) (Z := Z) (mg := mg) (base := base) DIsf bdIsf glIsf m_isinstance m_len m_range m_repr m_sorted m_tuple hLong).shed isf56_ok
    exact ok_Law (P := l.prog) (w := w) (Z := Z) (mg := mg) (base := base) DLaw bdLaw glLaw m_repr hFall hIsf hTwo hTap
end K56
open PySem PySem.W PyProof.Rows
set_option maxRecDepth 100000 in
set_option maxHeartbeats 0 in
theorem PySem.Challenge.cw_marginwords_k56_falling_rows_holds : PySem.Challenge.rw_marginwords_k56_falling_rows.Holds := by
  w_on; o_law; k_head; (case hw => w_witness2)
  k_fill
  refine Mw.law_end (l := PySem.Challenge.rw_marginwords_k56_falling_rows) (n := 63) (k := 10) (x := "_law_script") rfl (by decide) rfl ⟨rfl, by decide, by decide⟩ (fun w h Y => PySem.W.kIn_of Y) ?F
  case F =>
    intro w mg fa h KX G hmg htab
    refine' K56.all_mk KX G hmg  ?a1 ?l1 ?d1 ?k1 ?a2 ?l2 ?d2 ?k2 ?a3 ?l3 ?d3 ?k3 ?a4 ?l4 ?d4 ?k4 ?a5 ?l5 ?d5 ?k5 ?a6 ?l6 ?d6 ?k6 ?a7 ?l7 ?d7 ?k7 ?a8 ?l8 ?d8 ?k8 ?a9 ?l9 ?d9 ?k9 ?a10 ?l10 ?d10 ?k10 ?a11 ?l11 ?d11 ?k11 ?a12 ?l12 ?d12 ?k12 ?a13 ?l13 ?d13 ?k13 ?z0 ?z1 ?z2 ?z3 ?z4 ?z5 ?z6 ?z7 ?z8 ?z9
    (case a1 => k_is); (case l1 => k_is); (case d1 => k_is); (case k1 => k_is); (case a2 => k_is); (case l2 => k_is)
    (case d2 => k_is); (case k2 => k_is); (case a3 => k_is); (case l3 => k_is); (case d3 => k_is); (case k3 => k_is)
    (case a4 => k_is); (case l4 => k_is); (case d4 => k_is); (case k4 => k_is); (case a5 => k_is); (case l5 => k_is)
    (case d5 => k_is); (case k5 => k_is); (case a6 => k_is); (case l6 => k_is); (case d6 => k_is); (case k6 => k_is)
    (case a7 => k_is); (case l7 => k_is); (case d7 => k_is); (case k7 => k_is); (case a8 => k_is); (case l8 => k_is)
    (case d8 => k_is); (case k8 => k_is); (case a9 => k_is); (case l9 => k_is); (case d9 => k_is); (case k9 => k_is)
    (case a10 => k_is); (case l10 => k_is); (case d10 => k_is); (case k10 => k_is); (case a11 => k_is); (case l11 => k_is)
    (case d11 => k_is); (case k11 => k_is); (case a12 => k_is); (case l12 => k_is); (case d12 => k_is); (case k12 => k_is)
    (case a13 => k_is); (case l13 => k_is); (case d13 => k_is); (case k13 => k_is); (case z0 => k_is); (case z1 => k_is)
    (case z2 => k_is); (case z3 => k_is); (case z4 => k_is); (case z5 => k_is); (case z6 => k_is); (case z7 => k_is)
    (case z8 => k_is); (case z9 => k_is)

