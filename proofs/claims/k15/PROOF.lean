import PyProof.Rows.All
import Wide.All
import OpenK.AllK
import Wide.FinOn
import HandS.ForMost
import HandS.AnyAll
import HandS.IsInst
import HandS.Deep
import HandS.TupAny
import HandS.Flow
import HandS.EndTab
import HandS.Defaults
import PyProof.ReprReads
import PyProof.ReprRoads
import PyProof.GenCompD
import HandS.GenList
import HandS.Conv
import HandS.Style
import PyProof.ReprLen
import PyProof.Rows.RegStrFacts
import HandS.DictTup
import HandS.SortKw
import HandS.Zip
import KE.SortData
import KE.KDictSum
import KE.DataCmp
import KE.DataMinMax
import KE.KRevSl
import PyProof.StrOps2
import HandS.DictComp
import HandS.Wide
import HandS.Comp
import KE.GoesEnum
import HandS.Iter
import HandS.Strs
import KE.DataFind
import KE.KDictCopyH
import PySem.Challenge.RW_marginwords_k15_whole_joined_by_any_road
set_option Elab.async false
set_option linter.all false
set_option maxRecDepth 100000
set_option maxHeartbeats 2000000
namespace Mw
open PySem PySem.Spec PyProof.Rows L2
/-! ### a def of the top: its function object, its code object -/
structure Def (K : PySem.W.Frag) (x : Str) (st : Stmt) (f c : Addr) (fd : FuncData) : Prop where
  ex : ∃ (oc : Value) (od : Option Addr) (kV doc pm : Value) (an : Option Addr) (ct : Value) (osl : Array (Option Value)),
    fd = PySem.W.fnOf x x (defArgs st) (defBody st) (defScope st) .none kV doc pm an (.ref c) ct ∧
      K.lookup f = some ⟨oc, od, .func fd, osl⟩ ∧ PySem.W.codeIn K (.ref c) x = true
  kp : PySem.W.keepIn K (.ref f) = true
theorem Def.mk' {K : PySem.W.Frag} {x : Str} {st : Stmt} {f c : Addr} {oc : Value} {od an : Option Addr} {osl : Array (Option Value)} {kV doc pm ct : Value}
    (l : K.lookup f = some ⟨oc, od, .func (PySem.W.fnOf x x (defArgs st) (defBody st) (defScope st) .none kV doc pm an (.ref c) ct), osl⟩)
    (cd : PySem.W.codeIn K (.ref c) x = true) (kp : PySem.W.keepIn K (.ref f) = true) :
    Def K x st f c (PySem.W.fnOf x x (defArgs st) (defBody st) (defScope st) .none kV doc pm an (.ref c) ct) :=
  ⟨⟨oc, od, kV, doc, pm, an, ct, osl, rfl, l, cd⟩, kp⟩
section
variable {P : Program} {w : World} {K : PySem.W.Frag} {mg : Str → Option Value} {base : Heap} {x : Str} {st : Stmt} {f c : Addr} {fd : FuncData} {N ps : List Str} {k : Nat} {sp : Sp}
/-- the context in which a def's body runs -/
abbrev Bx (P : Program) (w : World) (K : PySem.W.Frag) (mg : Str → Option Value) (base : Heap) (N : List Str) (x : Str) (st : Stmt) (f c : Addr) (A : Around) (outer : List Env) (s : Shared) (H : Hp) (E : XK) : Cx :=
  (cxOf CX0 P w K mg base N x (defScope st) f (.ref c) A outer s H E).nox
theorem Def.ok (D : Def K x st f c fd) (S : FnScope N ps (defScope st)) (len : ∀ vs H Q E, sp vs H Q E → vs.length = ps.length)
    (body : ∀ (A : Around) (outer : List Env) (s : Shared) (H : Hp) (vs : List V) (Q : VK) (E : XK),
      Room k (A.deeper (envOfC x (defScope st) s.heap.objs.size f (.ref c))) → sp vs H Q E →
      ∃ t, PSs (Bx P w K mg base N x st f c A outer s H E) (defBody st) t ∧ t { nx := fun _ H' => Q .non H', rt := Q } (start N vs) H) :
    FnOk P w K mg base CX0 (k + 1) f fd ps sp := by
  obtain ⟨oc, od, kV, doc, pm, an, ct, osl, rfl, lk, hcd⟩ := D.ex
  refine fn_of lk hcd S len fun A outer s H vs Q E room hs => ?_
  obtain ⟨t, h1, h2⟩ := body A outer s H vs Q E room hs
  exact ⟨t, PSs.nox h1, h2⟩
theorem Def.binds (D : Def K x st f c fd)
    (h : ∀ (kV doc pm : Value) (an : Option Addr) (ct : Value) (us : List Value), us.length = ps.length →
      bindArgs (PySem.W.fnOf x x (defArgs st) (defBody st) (defScope st) .none kV doc pm an (.ref c) ct) ⟨us, []⟩ = pure (ps.zip us)) : Binds K fd ps [] := by
  obtain ⟨oc, od, kV, doc, pm, an, ct, osl, rfl, lk, hcd⟩ := D.ex
  exact Binds.all (h kV doc pm an ct)
/-! ### a promise where nothing is being shown (no repr under way) -/
structure FnG (P : Program) (w : World) (K : PySem.W.Frag) (mg : Str → Option Value) (base : Heap) (k : Nat) (f : Addr) (fd : FuncData) (ps : List Str) (sp : Sp) : Prop where
  len : ∀ vs H Q E, sp vs H Q E → vs.length = ps.length
  run : ∀ (A : Around) (outer : List Env) (s : Shared) (H : Hp) (args : Args) (us : List Value) (vs : List V) (Q : VK) (E : XK), Room k A → A.guards = some [] →
    Env0 P w K mg base A outer s H → BindsTo s fd args (ps.zip us) → Vals vs us → sp vs H Q E → codeAny (model P w) A (.call (.ref f) args) (CR CX0 outer P w H s Q E) s
theorem Def.okG (D : Def K x st f c fd) (S : FnScope N ps (defScope st)) (len : ∀ vs H Q E, sp vs H Q E → vs.length = ps.length)
    (body : ∀ (A : Around) (outer : List Env) (s : Shared) (H : Hp) (vs : List V) (Q : VK) (E : XK),
      Room k (A.deeper (envOfC x (defScope st) s.heap.objs.size f (.ref c))) → A.guards = some [] → sp vs H Q E →
      ∃ t, PSs (Bx P w K mg base N x st f c A outer s H E) (defBody st) t ∧ t { nx := fun _ H' => Q .non H', rt := Q } (start N vs) H) :
    FnG P w K mg base (k + 1) f fd ps sp := by
  obtain ⟨oc, od, kV, doc, pm, an, ct, osl, rfl, lk, hcd⟩ := D.ex
  refine ⟨len, fun A outer s H args us vs Q E hr hgu e0 hb r hs => ?_⟩
  have stay : ∀ b o, base.get? b = some o → s.heap.get? b = some o := fun b o e => (e0.bs b o e).1
  have KX : K.In s.heap := e0.mod.kin.keeps stay
  have lim : s.heap.NoLimit := e0.mod.nolimit.keeps stay
  refine codeAny_call_function hr.depth (KX _ _ lk) rfl S.co S.gen rfl (PySem.W.codeRec_of KX hcd) (hb _ _ _ _ ?_)
  refine wpAny_newFunctionEnv_cells S.kind (fun y hy => ?_) fun env he s1 ic => ?_
  · have hy1 : y.1 ∈ ps := (List.of_mem_zip (show (y.1, y.2) ∈ ps.zip us from hy)).1
    rcases S.par y.1 hy1 with q | q
    · exact Or.inl q
    · exact Or.inr ⟨q, PySem.W.cellsFrom_some _ _ _ (Or.inl q)⟩
  subst he
  refine ⟨lim.keeps ic.toInCall.keep, codeAny_func ?_⟩
  obtain ⟨t, ht, hq⟩ := body A outer s H vs Q E (hr.deeper _) hgu hs
  have I := inv_start (CX := CX0) (E := E) S hr.hd e0 (len _ _ _ _ hs) r ic
  refine wpAny_mono ((PSs.nox ht).run [] s1 (start N vs) H _ I hq) (fun fl s2 h2 => ?_) fun _ _ z => z
  cases fl with
  | ret u =>
    obtain ⟨v, _, H2, J, rv, q⟩ := h2
    exact ⟨v, H2, J.os, J.bare, J.base, J.hok, rv, q⟩
  | next =>
    obtain ⟨_, H2, J, q⟩ := h2
    exact ⟨V.non, H2, J.os, J.bare, J.base, J.hok, rfl, q⟩
  | brk => exact (let ⟨_, _, _, q⟩ := h2; False.elim q)
  | cont => exact (let ⟨_, _, _, q⟩ := h2; False.elim q)
end
/-! ### repr of data -/
section
variable {X : Cx}
def rRepr (K : PySem.W.Frag) : List V → Hp → VK → Prop := fun xs H Q => ∃ (x : V) (d : PyData), xs = [x] ∧ Dp K H x d ∧ d.showable = true ∧ d.canLay0 = true ∧ d.depth ≤ 32 ∧ d.shown.length ≤ 16000000 ∧ Q (.str d.shown) H
theorem call_repr (hg : X.A.guards = some []) (hu : X.A.units + 64 < cLine) : CallR X (.builtin "repr") (rRepr X.K) := by
  intro pins s σ H xs us Q I r h
  obtain ⟨x, d, rfl, hd, hs, hc, hdp, hz, q⟩ := h
  obtain ⟨u, rfl, ru⟩ := vals1 r
  obtain ⟨as, rd⟩ := Dp.reads I d x u hd ru
  have hdd := PyData.hasDict_of_canLay d hc
  have hzz : d.shown.length ≤ sizeLine := by rw [sizeLine_eq]; omega
  have fin : ∀ (h' : Heap) (tk : Tok) (tk' : Nat), (∀ b o, s.heap.get? b = some o → h'.get? b = some o) → EP X pins σ Q (.str d.shown tk) { s with heap := h', toks := tk' } :=
    fun h' tk tk' hk => ⟨.str d.shown, H, I.kept hk, ⟨tk, rfl⟩, q⟩
  cases hd with
  | non => cases ru; exact PySem.P.repr_of_none (fin s.heap _ _ fun _ _ e => e)
  | bl b => cases ru; exact PySem.P.repr_of_bool (fin s.heap _ _ fun _ _ e => e)
  | int i =>
    obtain ⟨t, rfl⟩ := ru
    have hi : i.natAbs.log2 < 1920 := by simpa [PyData.showable] using hs
    exact PySem.P.repr_of_int hi (fin s.heap _ _ fun _ _ e => e)
  | str z =>
    obtain ⟨t, rfl⟩ := ru
    exact PySem.P.repr_of_str (fin s.heap _ _ fun _ _ e => e) hzz
  | lst h1 h2 =>
    cases ru
    exact repr_of_reads' rd hs (PyData.noDict_hsm hdd) hg (by omega) (fun _ _ e => e) (fun h' u tk hk => fin h' u tk hk) hzz
  | tup h1 h2 =>
    cases ru
    exact repr_of_reads' rd hs (PyData.noDict_hsm hdd) hg (by omega) (fun _ _ e => e) (fun h' u tk hk => fin h' u tk hk) hzz
end
end Mw

namespace Mw
open PySem PySem.Spec PyProof.Rows L2
/-! ### the end of a law row: the law's def runs where nothing is under way; tables of code objects are tracked -/
/-- the abstract heap at the law's call: the tables, and the script where it is no object of the text -/
def H0 (K : PySem.W.Frag) (a : Addr) (ob : Obj) (xs : List V) (T : List Addr) : Hp := fun b =>
  if b ∈ T then some (.tbl #[]) else if b = a ∧ K.lookup a = none then some (.frz ob (.lst xs)) else none
section
variable {P : Program} {w : World} {K : PySem.W.Frag} {mg mb : Str → Option Value} {k : Nat} {fa a : Addr} {cs : List (Addr × Addr)} {fd : FuncData} {x : Str} {sp : Sp} {s : Shared} {vs : List Value} {ns : List Int}
abbrev scr (vs : List Value) : Obj := { cls := .type "list", data := .seq vs.toArray }
abbrev tb0 : Obj := { cls := .none, data := .fields #[] }
theorem law_run (KX : K.In s.heap) (hns : s.heap.Ns mainGlobals mg) (hb : s.heap.Ns builtinsNs mb) (hbb : ∀ y : Str, y ≠ "__name__" → mb y = bootBuiltins y)
    (hlim : s.heap.NoLimit) (hg : s.gens = #[]) (tab : ∀ p ∈ cs, s.heap.get? p.2 = some tb0) (tabK : ∀ p ∈ cs, K.lookup p.2 = none)
    (cod : ∀ p ∈ cs, PySem.W.CodeHd s.heap p.1 p.2)
    (hbm : ∃ (bm : Addr) (ob : Obj), mg "__builtins__" = some (.ref bm) ∧ bm ≠ builtinsNs ∧ s.heap.get? bm = some ob ∧ ob.cls = .type "module" ∧ ob.dict = some builtinsNs ∧ ob.data = .plain)
    (ha : s.heap.get? a = some (scr vs)) (hi : IntsAre vs ns) (hl : ns.length ≤ sizeLine) (hr : Room k callerA)
    (F : ∀ base : Heap, K.In base → base.Ns mainGlobals mg → (∀ p ∈ cs, GxR.TabB base mg p.1 p.2) → FnG P w K mg base k fa fd [x] sp)
    (hbind : ∀ (s : Shared) (u : Value), BindsTo s fd ⟨[u], []⟩ [(x, u)])
    (hsp : ∀ H : Hp, (∀ p ∈ cs, H p.2 = some (.tbl #[])) → SqL K H a (ns.map V.int) → sp [.ref a] H (fun v _ => v = .bl true) fun _ _ _ => False) :
    codeAny (model P w) callerA (.call (.ref fa) ⟨[.ref a], []⟩)
      (fun r s' => r = .ok (.ret (.bool true)) ∧ OldK s.heap s'.heap ∧ s'.os = s.os ∧ AllBare s'.gens) s := by
  have rv : Vals (ns.map V.int) vs := vals_ints hi
  have lv : vs.length = ns.length := hi.length
  obtain ⟨T, hTd⟩ : ∃ T, T = cs.map (·.2) := ⟨_, rfl⟩
  have tT : ∀ b ∈ T, s.heap.get? b = some tb0 ∧ K.lookup b = none := fun b h => by
    rw [hTd] at h
    obtain ⟨p, hp, rfl⟩ := List.mem_map.mp h
    exact ⟨tab p hp, tabK p hp⟩
  have cT : ∀ p ∈ cs, p.2 ∈ T := fun p hp => by rw [hTd]; exact List.mem_map.mpr ⟨p, hp, rfl⟩
  have aT : a ∉ T := fun h => by
    have e := (tT a h).1
    rw [ha] at e
    exact absurd (congrArg Obj.data (Option.some.inj e)) (fun z => by cases z)
  obtain ⟨H, hH⟩ : ∃ H, H = H0 K a (scr vs) (ns.map V.int) T := ⟨_, rfl⟩
  have hT1 : ∀ b ∈ T, H b = some (.tbl #[]) := fun b h => by rw [hH]; exact if_pos h
  have hA1 : K.lookup a = none → H a = some (.frz (scr vs) (.lst (ns.map V.int))) := fun h => by
    rw [hH]; exact (if_neg aT).trans (if_pos ⟨rfl, h⟩)
  have hN1 : ∀ b, b ∉ T → ¬ (b = a ∧ K.lookup a = none) → H b = none := fun b h1 h2 => by
    rw [hH]; exact (if_neg h1).trans (if_neg h2)
  have three : ∀ b, (b ∈ T) ∨ (b = a ∧ K.lookup a = none ∧ b ∉ T) ∨ H b = none := fun b => by
    by_cases h1 : b ∈ T
    · exact .inl h1
    · by_cases h2 : b = a ∧ K.lookup a = none
      · exact .inr (.inl ⟨h2.1, h2.2, h1⟩)
      · exact .inr (.inr (hN1 b h1 h2))
  have hok : HOk P w H s.heap := fun b u e => by
    rcases three b with h | ⟨h1, h2, _⟩ | h
    · rw [hT1 b h] at e; cases e; exact (tT b h).1
    · subst h1
      rw [hA1 h2] at e; cases e
      exact ⟨ha, by rw [List.length_map]; exact hl, vs, _, rv, ha⟩
    · rw [h] at e; cases e
  have bk : ∀ b o, s.heap.get? b = some o → H b = none → (hidT s.heap H).get? b = some o := fun b o e n => hidT_get e n
  have other : ∀ b o, s.heap.get? b = some o → o.data ≠ .fields #[] → (∀ us n, o.data ≠ .seq us n) → H b = none := fun b o e d1 d2 => by
    rcases three b with h | ⟨h1, _, _⟩ | h
    · rw [(tT b h).1] at e; cases e; exact absurd rfl d1
    · subst h1; rw [ha] at e; cases e; exact absurd rfl (d2 _ _)
    · exact h
  have nsB : ∀ b m, s.heap.Ns b m → (hidT s.heap H).Ns b m := fun b m ⟨o, es, ep, e, d, r⟩ =>
    ⟨o, es, ep, bk b o e (other b o e (by rw [d]; nofun) fun us n => by rw [d]; nofun), d, r⟩
  have KB : K.In (hidT s.heap H) := fun b o e => bk b o (KX b o e) (by
    rcases three b with h | ⟨h1, h2, _⟩ | h
    · rw [(tT b h).2] at e; cases e
    · subst h1; rw [h2] at e; cases e
    · exact h)
  have md : Mod K mg (hidT s.heap H) := ⟨KB, nsB _ _ hns, ⟨mb, nsB _ _ hb, hbb⟩, let ⟨mc, h1, h2⟩ := hlim; ⟨mc, nsB _ _ h1, h2⟩⟩
  have TB : ∀ p ∈ cs, GxR.TabB (hidT s.heap H) mg p.1 p.2 := fun p hp => by
    refine ⟨?_, ?_, fun z => ?_⟩
    · obtain ⟨o, us, fi, tf, fl, tg, inF, tx, tt, e1, r1, r2, r3, r4, r5, r6, r7, r8, r9⟩ := cod p hp
      refine ⟨o, us, fi, tf, fl, tg, inF, tx, tt, bk _ o e1 (other _ o e1 (fun z => ?_) fun ws n => by rw [r2]; nofun), r1, r2, r3, r4, r5, r6, r7, r8, r9⟩
      rw [r2] at z
      cases z
      simp at r3
    · obtain ⟨bm, ob, b1, b2, b3, b4, b5, b6⟩ := hbm
      refine ⟨bm, ob, b1, b2, fun q => ?_, fun q => ?_, bk _ ob b3 (other _ ob b3 (by rw [b6]; nofun) fun us n => by rw [b6]; nofun), b4, b5, b6⟩
      · obtain ⟨o, es, ep, e, d, _⟩ := hns
        rw [q, e] at b3
        cases b3
        rw [d] at b6
        cases b6
      · rw [q, tab p hp] at b3
        cases b3
        cases b6
    · obtain ⟨o, es, ep, e, d, _⟩ := hns
      rw [z, tab p hp] at e
      cases e
      cases d
  have e0 : Env0 P w K mg (hidT s.heap H) callerA [] s H :=
    ⟨rfl, md, fun b o e => of_hidT e, Nat.le_of_eq (hidT_size _ _), trivial, fun b hb => absurd (show b ∈ ([] : List Addr) from hb) List.not_mem_nil, hok, .of_eq hg⟩
  have sq : SqL K H a (ns.map V.int) := by
    cases q : K.lookup a with
    | none => exact .inl (.inr ⟨_, hA1 q⟩)
    | some o =>
      have e := KX a o q
      rw [ha] at e
      cases e
      exact .inr ⟨_, vs.toArray, _, q, rfl, rfl, rfl, by rw [List.size_toArray, lv]; exact hl, by simpa using rv⟩
  refine codeAny_mono ((F _ KB (nsB _ _ hns) TB).run callerA [] s H ⟨[.ref a], []⟩ [.ref a] [.ref a] _ _ hr rfl e0 (hbind s (.ref a)) (.cons rfl .nil) (hsp H (fun p hp => hT1 _ (cT p hp)) sq)) fun r s2 h => ?_
  cases r with
  | error e => exact False.elim h
  | ok fl =>
    cases fl with
    | next => exact False.elim h
    | brk => exact False.elim h
    | cont => exact False.elim h
    | ret u =>
      obtain ⟨v, H2, os, bare, un, hok2, ru, q⟩ := h
      obtain rfl : v = .bl true := q
      obtain rfl : u = Value.bool true := ru
      have old : ∀ b o, b ∉ T → s.heap.get? b = some o → s2.heap.get? b = some o := fun b o nb e => by
        rcases three b with h | ⟨h1, h2, _⟩ | h
        · exact absurd h nb
        · subst h1
          have z := hok2 _ _ (un.frzs _ _ _ (hA1 h2))
          rw [ha] at e
          cases e
          exact z.1
        · exact un.keep b o e h (by intro z; cases z) (by simp)
      have grown : ∀ b ∈ T, ∃ more : Array Value, s2.heap.get? b = some { cls := .none, data := .fields more } := fun b hb => by
        obtain ⟨more, z⟩ := un.tbls b #[] (hT1 b hb)
        exact ⟨_, hok2 b _ z⟩
      refine ⟨rfl, ⟨fun b o e => ?_, fun b o e => ?_⟩, os, bare⟩
      · by_cases hb : b ∈ T
        · obtain ⟨more, hm⟩ := grown b hb
          rw [hTd] at hb
          obtain ⟨p, hp, rfl⟩ := List.mem_map.mp hb
          rw [tab p hp] at e
          cases e
          exact .inr (.inl ⟨((cod p hp).tab (tab p hp)).isCodeTable, rfl, #[], more, rfl, by rw [Array.empty_append]; exact hm⟩)
        · exact .inl (old b o hb e)
      · by_cases hb : b ∈ T
        · obtain ⟨more, hm⟩ := grown b hb
          exact ⟨_, hm⟩
        · exact ⟨o, old b o hb e⟩
end
/-- what the head tells of a def of the view -/
def TabOf (K : PySem.W.Frag) (h : Heap) (x : Str) : Prop := ∀ c Q, PySem.W.tabIn K x = some (c, Q) → PySem.W.CodeHd h c Q ∧ h.get? Q = some tb0
/-- the goal that k_head leaves -/
theorem law_end {l : PySem.W.OpenLaw} {n k : Nat} {q : Program} {loose : List Str} {XP : (Str → Option Value) → Heap → Prop} {YP : World → Heap → Prop} {d : DefRec} {K : Params → PySem.W.Frag} {x : Str}
    (hn : l.most = some n) (hn2 : n ≤ sizeLine) (hdf : d.params.defaults = []) (hr : Room k callerA) (hY : ∀ (w : World) (h : Heap), YP w h → (K w.params).In h)
    (F : ∀ (w : World) (mg : Str → Option Value) (fa : Addr) (h : Heap), (K w.params).In h → h.Ns mainGlobals mg → mg d.name = some (.ref fa) →
      (∀ (y : Str), ((recsOf q).any fun e => e.name == y) = true → TabOf (K w.params) h y) →
      ∃ (fd : FuncData) (cs : List (Addr × Addr)) (sp : Sp), (∀ p ∈ cs, h.get? p.2 = some tb0 ∧ (K w.params).lookup p.2 = none ∧ PySem.W.CodeHd h p.1 p.2) ∧
        (∀ (s : Shared) (u : Value), BindsTo s fd ⟨[u], []⟩ [(x, u)]) ∧
        (∀ (H : Hp) (a : Addr) (ns : List Int), ns.length ≤ n → (∀ z ∈ ns, Builtin.Int.intBits z ≤ 1048576) → (∀ p ∈ cs, H p.2 = some (.tbl #[])) → SqL (K w.params) H a (ns.map V.int) →
          sp [.ref a] H (fun v _ => v = .bl true) fun _ _ _ => False) ∧
        ∀ base : Heap, (K w.params).In base → base.Ns mainGlobals mg → (∀ p ∈ cs, GxR.TabB base mg p.1 p.2) → FnG l.prog w (K w.params) mg base k fa fd [x] sp) :
    PySem.W.WalkO q loose XP YP l.row.toRowW d [] (fun f vs => PySem.call f vs) := by
  refine Att.attach_callB hn hdf fun w s0 s1 mg mb fa o pm cd doc a vs ns G Y ho hd hcd hmg hobj hints hlen hbits hg => ?_
  have KX := hY w _ Y
  have tabs : ∀ (y : Str), ((recsOf q).any fun e => e.name == y) = true → TabOf (K w.params) s1.heap y := fun y hy c Q ht => by
    have h1 : ((recsOf q).find? fun e => e.name == y).isSome = true := by
      rw [List.find?_isSome]
      obtain ⟨e, he, hz⟩ := List.any_eq_true.mp hy
      exact ⟨e, he, hz⟩
    obtain ⟨dy, hdy⟩ := Option.isSome_iff_exists.mp h1
    exact PySem.W.tab_of G.T KX hdy ht
  obtain ⟨fd, cs, sp, h1, h2, h3, h4⟩ := F w mg fa _ KX G.T.g hmg tabs
  exact law_run KX G.T.g G.T.b G.T.builtins G.T.nolimit hg (fun p hp => (h1 p hp).1) (fun p hp => (h1 p hp).2.1) (fun p hp => (h1 p hp).2.2) G.T.bmain hobj hints (Nat.le_trans hlen hn2) hr h4 h2
    fun H hH hS => h3 H a ns hlen hbits hH hS
end Mw

namespace Mw
open PySem PySem.Spec PyProof.Rows L2
/-! ### generator expressions: the element runs in a frame of its own -/
/-- around the element: one frame more -/
structure GA (X : Cx) (cenv : Env) (B : Around) : Prop where
  hd : B.handled = none
  fr : B.frames = some (cenv :: X.stack)
  gu : B.guards = X.A.guards
  dp : B.depth ≤ X.A.depth + 1
  un : B.units ≤ X.A.units + 12
theorem GA.room {X : Cx} {cenv : Env} {B : Around} {k : Nat} (a : GA X cenv B) (r : Room (k + 1) X.A) : Room k B :=
  ⟨a.hd, by have := a.dp; have := r.dp; omega, by have := a.un; have := r.un; omega⟩
/-- the context of the element -/
abbrev gcx (X : Cx) (B : Around) (s : Shared) (H : Hp) (cenv : Env) (fp : List Addr) : Cx :=
  { X with A := B, s_0 := s, H_0 := H, env := cenv, outer := X.stack, stack := cenv :: X.stack, ex := fp, fn := fun _ => false, calm := true, pn := [], xe := fun _ _ => False }
abbrev gEnv (X : Cx) (scope : Scope) (C : Addr) (code : Value) : Env := genEnv scope (cloFrom X.env.cells scope.names []) C code builtinsNs X.env
section
variable {X : Cx} {pins : List (Addr × Obj)} {σ : L2.St} {H : Hp} {s : Shared}
theorem gen_start {scope : Scope} {own : List (Str × Nat)} {fp : List Addr} {B : Around} {code : Value} {m : Str → Option Value} {t : Shared}
    (I : Inv X pins σ H s) (ok : BlkOk X.N X.env.scope scope own) (nc : ∀ y ∈ scope.names, y.2 ≠ .cell) (hN : X.N.Nodup) (hfp : ∀ b ∈ fp, FpOk X pins H b ∧ b < s.heap.objs.size)
    (ga : GA X (gEnv X scope s.heap.objs.size code) B) (os : t.os = s.os) (bare : AllBare t.gens) (kp : ∀ b o, s.heap.get? b = some o → t.heap.get? b = some o) (hn : t.heap.Ns s.heap.objs.size m) :
    Inv (gcx X B s H (gEnv X scope s.heap.objs.size code) fp) [] (wipe σ (own.map (·.2))) H t := by
  have hfree : ∀ y ∈ scope.names, y.2 = .free → ∃ c, X.env.cells.lookup y.1 = some c := fun y hy e => by
    rcases ok.free y hy e with k | k
    · exact I.ok.has _ (.inl k)
    · exact I.ok.has _ (.inr k)
  have cl : ∀ {y c}, (cloFrom X.env.cells scope.names []).lookup y = some c → X.env.cells.lookup y = some c ∧ c < s.heap.objs.size := fun {y c} e => by
    rcases cloFrom_mem (PySem.mem_of_lookup e) with hm | ⟨h1, h2⟩
    · cases hm
    · obtain ⟨c1, hc1⟩ := hfree _ h1 rfl
      have hc1' : X.env.cells.lookup y = some c1 := hc1
      rw [hc1'] at h2
      have e2 : c = c1 := h2
      rw [e2]
      obtain ⟨_, z⟩ := I.cell _ _ hc1'
      exact ⟨hc1', z.lt⟩
  have cf : ∀ {y}, scope.names.lookup y = some .free → ∃ c, (cloFrom X.env.cells scope.names []).lookup y = some c := fun {y} e => by
    obtain ⟨c, h⟩ := mem_lookup (cloFrom_has (cells := X.env.cells) (acc := []) (PySem.mem_of_lookup e))
    exact ⟨c, h⟩
  have okG : (gcx X B s H (gEnv X scope s.heap.objs.size code) fp).Ok := by
    refine ⟨I.ok.mod, ok.kind, I.ok.glob, rfl, Nat.le_refl _, fun y z c e1 e2 => I.ok.inj y z c (cl e1).1 (cl e2).1, fun y hy => ?_, fun y c z => (Bool.false_ne_true z).elim, fun _ => ga.hd, ga.fr, .inr ⟨rfl, rfl⟩,
      fun b hb => ⟨Nat.ne_of_lt (hfp b hb).2, fun y c e => (hfp b hb).1.2.2.2.2.1 y c (cl e).1⟩, I.bs, Nat.le_trans I.ok.bsz I.sz, fun b o e hb => ?_, fun b hb z => ?_, I.stack, I.stkFree⟩
    · have hy' : scope.names.lookup y = some .cell ∨ scope.names.lookup y = some .free := hy
      rcases hy' with h | h
      · exact absurd rfl (nc _ (PySem.mem_of_lookup h))
      · exact cf h
    · rcases (hfp b hb).1.2.2.2.1 with z | z
      · exact I.ok.noex b o e z
      · exact absurd (Nat.lt_of_lt_of_le (Heap.lt_size e) (Nat.le_trans I.ok.bsz z)) (Nat.lt_irrefl _)
    · rcases List.mem_cons.mp (I.stkSub b z) with z | z
      · exact (hfp b hb).1.2.1 z
      · exact (hfp b hb).1.2.2.1 z
  refine ⟨okG, os, bare, Un.kept kp, ⟨m, hn, fun i y v e1 e2 e3 => ?_⟩, fun y c e => ?_, I.hok.fresh (Nat.le_refl _), fun y c e => I.freeC y c (cl e).1, fun p hp => ?_, I.hok.kept kp, by rw [wipe_length]; exact I.len⟩
  · obtain ⟨e2, hw⟩ := wipe_some e2
    have nl : ∀ k, scope.names.lookup y = some k → k = .local ∨ k = .cell → False := fun k hk hk' => by
      rcases ok.own _ (PySem.mem_of_lookup hk) hk' with q | q
      · obtain ⟨p, hp, hpy⟩ := List.mem_map.mp q
        have e4 := ok.ix p hp
        have hpy' : p.1 = y := hpy
        rw [hpy'] at e4
        exact hw (List.mem_map.mpr ⟨p, hp, nodup_ix hN e4 e1⟩)
      · exact q (List.mem_of_getElem? e1)
    have fr : scope.names.lookup y = some .free := by
      have e3' : Vis scope y := e3
      rcases e3' with k | k | k
      · exact (nl _ k (.inl rfl)).elim
      · exact (nl _ k (.inr rfl)).elim
      · exact k
    obtain ⟨c, hc⟩ := cf fr
    have hc2 := (cl hc).1
    obtain ⟨m1, _, hl⟩ := I.loc
    have vs : Vis X.env.scope y := (ok.free _ (PySem.mem_of_lookup fr) rfl).elim (fun k => .inr (.inl k)) (fun k => .inr (.inr k))
    obtain ⟨u, ru, lk⟩ := hl i y v e1 e2 vs
    refine ⟨u, ru, .inr ⟨.inr fr, c, hc, ?_⟩⟩
    rcases lk with ⟨k, _⟩ | ⟨_, c', e', z⟩
    · have k' : X.env.scope.names.lookup y = some .local := k
      rcases ok.free _ (PySem.mem_of_lookup fr) rfl with q | q
      · rw [show X.env.scope.names.lookup y = _ from q] at k'; cases k'
      · rw [show X.env.scope.names.lookup y = _ from q] at k'; cases k'
    · rw [hc2] at e'; cases e'
      exact z.keeps kp
  · obtain ⟨u, z⟩ := I.cell y c (cl e).1
    exact ⟨u, z.keeps kp⟩
  · exact absurd (show p ∈ ([] : List (Addr × Obj)) ++ [] from hp) (by simp)
/-- while the generator sleeps only objects at sl turn -/
structure Idle (sl : List Addr) (s t : Shared) : Prop where
  os : t.os = s.os
  bare : AllBare t.gens
  kp : ∀ b o, b ∉ sl → s.heap.get? b = some o → t.heap.get? b = some o
  ob : ∀ b ∈ sl, ∃ o, t.heap.get? b = some o
theorem Inv.idle {sl : List Addr} {t : Shared} (I : Inv X pins σ H s) (f : ∀ b ∈ sl, FpOk X pins H b) (z : Idle sl s t) : Inv X pins σ H t := by
  obtain ⟨th, tg, td, tt, to⟩ := t
  obtain rfl : to = s.os := z.os
  have nb : ∀ b u, H b = some u → b ∉ sl := fun b u e hb => by rw [(f b hb).1] at e; cases e
  refine I.step (g' := tg) (t' := tt) (d' := td) (ch := sl) (fun b hb => ⟨(f b hb).2.2.2.1, (f b hb).2.1, (f b hb).2.2.2.2.1, (f b hb).2.2.2.2.2⟩) (fun b o _ _ hc e _ => z.kp b o hc e)
    (fun b o _ _ hc e _ => ⟨o.slots, z.kp b o hc e⟩) (fun _ _ _ _ n => n) (fun b o hc e => ⟨o, z.kp b o hc e⟩) (fun _ _ e => e) (fun _ _ _ e => e) (fun b ps e => ⟨#[], by rw [e]; simp⟩) (fun m hm => ?_) (fun b u e => ?_) z.bare
  · obtain ⟨o, es, ep, ho, r⟩ := hm
    exact ⟨o, es, ep, z.kp _ o (fun hb => (f _ hb).2.1 rfl) ho, r⟩
  · refine (I.hok b u e).stay (fun c v hc q => z.kp c v ?_ q) (fun _ q => q) fun _ _ q => q
    rcases hc with y | y
    · rw [y]; exact nb b u e
    · exact nb c _ y
end
end Mw

namespace Mw
open PySem PySem.Spec PyProof.Rows L2
/-! ### the turns of a generator expression -/
/-- who draws: what it keeps (a), at objects of its own (sl) -/
structure Con (α : Type) (sl : List Addr) where
  stp : α → V → Option α
  cs : α → Heap → Prop
  ob : ∀ a h, cs a h → ∀ b ∈ sl, ∃ o, h.get? b = some o ∧ ∀ v, o.data ≠ .cell v
  kp : ∀ a h h', cs a h → (∀ b ∈ sl, ∀ o, h.get? b = some o → h'.get? b = some o) → cs a h'
section
variable {α : Type} {sl : List Addr}
def gY (Y : Cx) (c : Con α sl) (Fi : α → V → Hp → Prop) : Protocol := fun n s0 v s1 kap =>
  ∃ (a : α) (y : V) (ps : List (Addr × Obj)) (σ : L2.St) (H : Hp), RelV y v ∧ Inv Y ps σ H s1 ∧ (∀ b ∈ sl, H b = none) ∧ c.cs a s1.heap ∧
    ((c.stp a y = none ∧ Fi a y H) ∨ ∃ a', c.stp a y = some a' ∧ ∀ s2, Idle sl s1 s2 → c.cs a' s2.heap → kap (.send .none) s2)
def gR (Y : Cx) (c : Con α sl) (En : α → Hp → Prop) : Nat → Shared → Shared → Prop := fun n s0 s1 =>
  ∃ (a : α) (ps : List (Addr × Obj)) (σ : L2.St) (H : Hp), Inv Y ps σ H s1 ∧ (∀ b ∈ sl, H b = none) ∧ c.cs a s1.heap ∧ En a H
/-- what the turns ask -/
def turns (J : It) (g : TG) (tt : TT) (te : TE) (vs : List Nat) (stp : α → V → Option α) (Fi : α → V → Hp → Prop) (En : α → Hp → Prop) (σ : L2.St) (W : Nat → Nat → α → Hp → Prop) : Prop :=
  ∀ i m a H, W i m a H → (J.stop i H ∧ En a H) ∨ (J.go i H ∧ ∃ Nx : α → Hp → Prop, (∀ a' H', Nx a' H' → ∃ m', m' < m ∧ W (i + 1) m' a' H') ∧
    ∀ x H', J.yld i H x H' → g x (wipe σ vs) H' fun σ2 H2 => wipe σ2 vs = wipe σ vs ∧ tt σ2 H2 fun b H3 =>
      if b = true then te σ2 H3 fun y H4 => (stp a y = none ∧ Fi a y H4) ∨ ∃ a', stp a y = some a' ∧ Nx a' H4 else Nx a H3)
section
variable {Y : Cx} {fp : List Addr} {it : Addr} {tn : Nat → Heap → Prop} {J : It} {elt tg iter : Expr} {ifs : List Expr} {scope : Scope} {pos : Pos} {g : TG} {tt : TT} {te : TE} {vs : List Nat} {σ : L2.St} {W : Nat → Nat → α → Hp → Prop} {Fi : α → V → Hp → Prop} {En : α → Hp → Prop} {Ag : Around}
theorem gen_loop (c : Con α sl) (hcalm : Y.calm = true) (hpn : Y.pn = []) (hxe : Y.xe = fun _ _ => False) (hex : Y.ex = fp) (T : Turn Y.prog Y.w Y.K tg J fp it tn) (dj : ∀ b ∈ fp, b ∉ sl)
    (sf : ∀ b ∈ sl, b ≠ Y.env.locals ∧ b ∉ Y.fs ∧ Y.s_0.heap.objs.size ≤ b ∧ ∀ x c, Y.env.cells.lookup x = some c → c ≠ b)
    (pg : PG Y tg g) (pt : PTs Y ifs tt) (pe : PE Y elt te) (hco : Y.env.scope.isCoroutine = false)
    (hA : Ag.over (.compLoop (.GeneratorExp elt [⟨tg, iter, ifs, 0⟩] scope pos) 0 (.ref it) .none Y.env) [] = Y.A) (tu : turns J g tt te vs c.stp Fi En σ W) :
    ∀ (m n i : Nat) (a : α) (s0 s : Shared) (H : Hp), m < n → W i m a H → Inv Y [] (wipe σ vs) H s → tn i s.heap → (∀ b ∈ fp, H b = none) → (∀ b ∈ sl, H b = none) → c.cs a s.heap →
      Seg (model Y.prog Y.w) Ag (fun n s0 r s1 => r = .ok .next ∧ gR Y c En n s0 s1) (gY Y c Fi) n s0
        (.compLoop (.GeneratorExp elt [⟨tg, iter, ifs, 0⟩] scope pos) 0 (.ref it) .none Y.env)
        ((model Y.prog Y.w).den (.compLoop (.GeneratorExp elt [⟨tg, iter, ifs, 0⟩] scope pos) 0 (.ref it) .none Y.env)) [] s := by
  have hyo : ∀ v, yieldOut Y.env v = yieldValue v := fun v => by simp only [yieldOut, hco, Bool.false_eq_true, if_false]
  have nop : ∀ {H : Hp} {s : Shared} {ps : List (Addr × Obj)} {σ' : L2.St}, Inv Y ps σ' H s → Inv Y [] σ' H s := fun {H s ps σ'} I => I.pins_of fun p hp => by cases hp
  have slOk : ∀ {H : Hp} {ps : List (Addr × Obj)}, (∀ b ∈ sl, H b = none) → (∀ p ∈ ps, p.1 ∉ sl) → ∀ b ∈ sl, FpOk Y ps H b := fun {H ps} h1 h2 b hb =>
    ⟨h1 b hb, (sf b hb).1, (sf b hb).2.1, .inr (sf b hb).2.2.1, (sf b hb).2.2.2, fun p hp e => h2 p (by rw [hpn] at hp; exact hp) (by rw [e]; exact hb)⟩
  have fpOk : ∀ {H : Hp} {s : Shared} {ps : List (Addr × Obj)} {σ' : L2.St}, Inv Y ps σ' H s → (∀ b ∈ fp, H b = none) → (∀ p ∈ ps, p.1 ∉ fp) → ∀ b ∈ fp, FpOk Y ps H b := fun {H s ps σ'} I h1 h2 b hb => by
    have hb' : b ∈ Y.ex := by rw [hex]; exact hb
    exact ⟨h1 b hb, (I.ok.exf b hb').1, I.ok.exfs b hb', .inl hb', (I.ok.exf b hb').2, fun p hp e => h2 p (by rw [hpn] at hp; exact hp) (by rw [e]; exact hb)⟩
  intro m
  induction m using Nat.strongRecOn with
  | ind m ih =>
    intro n i a s0 s H hmn w I st nfp nsl hcs
    show Seg _ Ag _ _ n s0 _ ((compTurn (.GeneratorExp elt [⟨tg, iter, ifs, 0⟩] scope pos) 0 (.ref it) .none Y.env).onRaise (leaving Y.env)) [] s
    rw [compTurn_gen, Sem.onRaise_eq_wrap]
    refine seg_bind_wrap (wpAny_standAt ?_)
    have I1 : Inv Y ([] ++ pinsAt sl s.heap) (wipe σ vs) H s := I.pinned (slOk nsl fun p hp => by cases hp) (c.ob a s.heap hcs)
    have f1 : ∀ b ∈ fp, FpOk Y ([] ++ pinsAt sl s.heap) H b := fpOk I1 nfp fun p hp hb => by
      rw [List.nil_append] at hp
      exact dj _ hb (of_pinsAt hp).1
    rcases tu i m a H w with ⟨stop, en⟩ | ⟨go, Nx, hNx, step⟩
    · refine seg_bind_wrap ?_
      rw [hA]
      refine thn (T.done Y rfl rfl rfl hcalm i _ s _ H _ I1 f1 st stop) fun r s1 hr => ?_
      obtain ⟨rfl, J1⟩ := hr
      refine seg_end (.ok .next) ⟨rfl, a, _, _, H, J1, nsl, c.kp a _ _ hcs fun b hb o e => ?_, en⟩
      exact (J1.pin (b, o) (List.mem_append_right _ (List.mem_append_right _ (mem_pinsAt hb e)))).1
    · refine seg_bind_wrap ?_
      rw [hA]
      refine thn (T.item Y rfl rfl rfl hcalm i _ s _ H _ I1 f1 st go) fun r s1 hr => ?_
      obtain ⟨u, rfl, h1⟩ := hr
      refine seg_bind_wrap ?_
      rw [hA]
      refine thn h1 fun _ s2 h2 => ?_
      obtain ⟨x, H2, I2, rx, yl, st2, nfp2⟩ := h2
      have I3 := I2.pinned (fpOk I2 nfp2 fun p hp hb => by
        rw [List.nil_append] at hp
        exact dj _ hb (of_pinsAt hp).1) (T.obj _ _ st2)
      refine seg_bind_wrap ?_
      rw [hA]
      refine wpAny_mono (pg.run _ s2 _ H2 x u _ I3 rx (step x H2 yl)) (fun _ s3 h3 => ?_) (fun _ _ z => by rw [hxe] at z; exact z.elim)
      obtain ⟨σ3, H3, I4, hw3, q3⟩ := h3
      refine seg_bind_wrap ?_
      rw [hA]
      refine wpAny_mono (pt.run _ s3 σ3 H3 _ I4 q3) (fun b s4 h4 => ?_) (fun _ _ z => by rw [hxe] at z; exact z.elim)
      obtain ⟨H4, I5, q4⟩ := h4
      -- behind the turn
      have keepS : ∀ {s' : Shared} {H' : Hp} {σ' : L2.St}, Inv Y ([] ++ pinsAt sl s.heap ++ pinsAt fp s2.heap) σ' H' s' → (∀ b ∈ sl, H' b = none) ∧ c.cs a s'.heap ∧ tn (i + 1) s'.heap ∧ ∀ b ∈ fp, H' b = none := fun {s' H' σ'} I' => by
        have ps : ∀ b ∈ sl, ∀ o, s.heap.get? b = some o → s'.heap.get? b = some o ∧ H' b = none := fun b hb o e =>
          let z := I'.pin (b, o) (List.mem_append_right _ (List.mem_append_left _ (List.mem_append_right _ (mem_pinsAt hb e))))
          ⟨z.1, z.2.1⟩
        have pf : ∀ b ∈ fp, ∀ o, s2.heap.get? b = some o → s'.heap.get? b = some o ∧ H' b = none := fun b hb o e =>
          let z := I'.pin (b, o) (List.mem_append_right _ (List.mem_append_right _ (mem_pinsAt hb e)))
          ⟨z.1, z.2.1⟩
        refine ⟨fun b hb => ?_, c.kp a _ _ hcs fun b hb o e => (ps b hb o e).1, T.keep _ _ _ st2 fun b hb o e => (pf b hb o e).1, fun b hb => ?_⟩
        · obtain ⟨o, e, _⟩ := c.ob a s.heap hcs b hb
          exact (ps b hb o e).2
        · obtain ⟨o, e, _⟩ := T.obj _ _ st2 b hb
          exact (pf b hb o e).2
      have back : ∀ {s' : Shared} {H' : Hp} {ps : List (Addr × Obj)}, Inv Y ps σ3 H' s' → Inv Y [] (wipe σ vs) H' s' := fun {s' H' ps} I' =>
        (nop I').weak (by rw [← hw3, wipe_length]) fun j v e => by rw [← hw3] at e; exact (wipe_some e).1
      cases b with
      | false =>
        simp only [Bool.false_eq_true, if_false] at q4 ⊢
        obtain ⟨m', hm, w'⟩ := hNx a H4 q4
        obtain ⟨k1, k2, k3, k4⟩ := keepS I5
        exact seg_again rfl (ih m' hm n (i + 1) a s0 s4 H4 (by omega) w' (back I5) k3 k4 k1 k2)
      | true =>
        simp only [if_true] at q4 ⊢
        simp only [hyo]
        rw [Sem.bind_eq_wrap', Sem.bind_eq_wrap', Sem.wrap_wrap, Sem.wrap_wrap]
        refine seg_wrap ?_
        rw [hA]
        refine wpAny_mono (pe.run _ s4 σ3 H4 _ I5 q4) (fun v s5 h5 => ?_) (fun _ _ z => by rw [hxe] at z; exact z.elim)
        obtain ⟨y, H5, I6, ry, q5⟩ := h5
        obtain ⟨k1, k2, k3, k4⟩ := keepS I6
        rcases q5 with ⟨q5, q6⟩ | ⟨a', q5, nx⟩
        · obtain ⟨n', rfl⟩ : ∃ n', n = n' + 1 := ⟨n - 1, by omega⟩
          exact seg_at (seg_yield rfl rfl rfl ⟨a, y, _, _, H5, ry, I6, k1, k2, .inl ⟨q5, q6⟩⟩)
        · obtain ⟨m', hm, w'⟩ := hNx a' H5 nx
          obtain ⟨n', rfl⟩ : ∃ n', n = n' + 1 := ⟨n - 1, by omega⟩
          refine seg_at (seg_yield rfl rfl rfl ⟨a, y, _, _, H5, ry, I6, k1, k2, .inr ⟨a', q5, fun s6 z hcs' => ?_⟩⟩)
          have I7 : Inv Y [] (wipe σ vs) H5 s6 := Inv.idle (back I6) (slOk k1 fun p hp => by cases hp) z
          refine seg_again rfl (ih m' hm n' (i + 1) a' s6 s6 H5 (by omega) w' I7 (T.keep _ _ _ k3 fun b hb o e => z.kp b o (dj b hb) e) k4 k1 hcs')
end
end
end Mw

namespace Mw
open PySem PySem.Spec PyProof.Rows L2
/-! ### a generator expression is made -/
/-- the generator at ga, not begun, in the state t -/
structure GMk (X : Cx) (pins : List (Addr × Obj)) (σ : L2.St) (elt tg iter : Expr) (ifs : List Expr) (scope : Scope) (pos : Pos) (ga g : Nat) (t : Shared) (it : Addr) (fp : List Addr) (tn : Nat → Heap → Prop) (J : It) (H : Hp) (s : Shared) (code : Value) : Prop where
  turn : Turn X.prog X.w X.K tg J fp it tn
  inv : Inv X pins σ H s
  st : tn 0 t.heap
  fok : ∀ b ∈ fp, FpOk X pins H b ∧ b < s.heap.objs.size
  os : t.os = s.os
  bare : AllBare t.gens
  kp : ∀ b o, s.heap.get? b = some o → t.heap.get? b = some o
  ns : ∃ m, t.heap.Ns s.heap.objs.size m
  isg : t.heap.IsGen ga g
  gen : t.gens[g]? = some (.fresh (.compStart (.GeneratorExp elt [⟨tg, iter, ifs, 0⟩] scope pos) 0 (.ref it) .none (gEnv X scope s.heap.objs.size code)))
  ga : s.heap.objs.size < ga
section
variable {X : Cx} {pins : List (Addr × Obj)} {σ : L2.St} {H : Hp} {s : Shared}
theorem gen_eval {c P : Addr} {elt tg iter : Expr} {ifs : List Expr} {scope : Scope} {own : List (Str × Nat)} {gpos : Pos} {wi : TI} {k : Nat} {Q' : Value → Shared → Prop} {R : It → Hp → Prop}
    (hr : Room k X.A) (TB : GxR.TabB X.base X.mg c P) (hcode : X.env.code = .ref c) (hi : PI X tg iter wi) (ok : BlkOk X.N X.env.scope scope own) (nc : ∀ y ∈ scope.names, y.2 ≠ .cell) (hco : scope.isCoroutine = false)
    (dot : scope.names.lookup (".0" : Str) = some NameKind.local) (hs : ∀ v, genFold iter X.env v = pure v) (I : Inv X pins σ H s)
    (h : wi σ H fun J H1 => GxR.TabG H1 P ∧ ∀ H2, GxR.Tabbed P H1 H2 → R J H2)
    (hQ : ∀ ga g t it fp tn J H2 s2 code, GMk X pins σ elt tg iter ifs scope gpos ga g t it fp tn J H2 s2 code → R J H2 → Q' (.ref ga) t) :
    wpAny (model X.prog X.w) X.A (eval (.GeneratorExp elt [⟨tg, iter, ifs, 0⟩] scope gpos) X.env) Q' X.xe s := by
  have hfree : ∀ y ∈ scope.names, y.2 = .free → ∃ c, X.env.cells.lookup y.1 = some c := fun y hy e => by
    rcases ok.free y hy e with k | k
    · exact I.ok.has _ (.inl k)
    · exact I.ok.has _ (.inr k)
  refine wpAny_GeneratorExp_make hco (closure_ok hfree) nc dot ok.kind (by have := hr.dp; omega) ?_ hs
  refine thn (hi.run pins s σ H _ I h) fun xv s1 hx => thn hx fun itv s2 h2 => ?_
  obtain ⟨it, fp, tn, J, H1, rfl, I1, T, st1, f1, ⟨ps, hP, ht⟩, q⟩ := h2
  have hPs : s2.heap.get? P = some { cls := .none, data := .fields ps } := I1.hok P _ hP
  have cd : PySem.W.CodeHd s2.heap c P := TB.code.keeps I1.bk
  have nP : ∀ b ∈ fp, b ≠ P := fun b hb e => by
    have z := (f1 b hb).1
    rw [e, hP] at z
    cases z
  -- behind the code object
  have go : ∀ (code : Value) (h3 : Heap) (tk : Nat) (more : Array Value), (∀ b o, b ≠ P → s2.heap.get? b = some o → h3.get? b = some o) → h3.get? P = some { cls := .none, data := .fields (ps ++ more) } → TriplesOk (ps ++ more).toList →
      wpAny (model X.prog X.w) X.A (builtinsFor X.env.globals X.env.builtins) (fun bi s4 => ∀ h', h'.Ns s4.heap.objs.size (fun y => if y = (".0" : Str) then some (.ref it) else none) → Heap.SameBut s4.heap.objs.size (s4.heap.push { cls := .type "frame", data := .dict #[] }) h' →
        Q' (.ref h'.objs.size) { s4 with
          gens := s4.gens.push (.fresh (.compStart (.GeneratorExp elt [⟨tg, iter, ifs, 0⟩] scope gpos) 0 (.ref it) .none (genEnv scope (cloFrom X.env.cells scope.names []) s4.heap.objs.size code bi X.env))),
          toks := s4.toks + 1 + 1 + 1,
          heap := h'.push { cls := .type "generator", data := .fields #[.int s4.gens.size 0, .str "<genexpr>" (s4.toks + 1), .str (X.env.qual ++ "<genexpr>") (s4.toks + 1 + 1)] } }) X.xe { s2 with heap := h3, toks := tk } := by
    intro code h3 tk more kp3 hP3 ht3
    have J3 := GxR.inv_tab (more := more) (h' := h3) (g' := s2.gens) (d' := s2.drawn) (t' := tk) I1 hP kp3 hP3 I1.bare
    obtain ⟨bm, ob, e1, e2, e3, e4, e5, e6, e7, e8⟩ := TB.bm
    refine wpAny_builtinsFor (m := X.mg) (by rw [I1.ok.glob]; exact J3.mod.glob.keeps J3.bk) e1 e2 (J3.bk _ _ e5) e6 e7 e8 ?_
    intro h' hn' sb
    have sz : h'.objs.size = h3.objs.size + 1 := by rw [sb.1]; exact Heap.size_push ..
    have kp' : ∀ b o, h3.get? b = some o → h'.get? b = some o := fun b o e => sb.extBut b o (Nat.ne_of_lt (Heap.lt_size e)) (Heap.get?_push_of_some _ e)
    have kp5 : ∀ (og : Obj) b o, h3.get? b = some o → (h'.push og).get? b = some o := fun og b o e => Heap.get?_push_of_some _ (kp' b o e)
    refine hQ _ _ _ it fp tn J (upd H1 P (.tbl (ps ++ more))) _ code ⟨T, J3, ?_, fun b hb => ⟨?_, ?_⟩, rfl, ?_, kp5 _, ⟨_, hn'.push _⟩, ⟨_, _, _, Heap.get?_push_size _ rfl, rfl, rfl, rfl⟩, Array.getElem?_push_size .., ?_⟩
      (q _ ⟨⟨ps ++ more, upd_same, ht3⟩, fun b hb => upd_ne hb⟩)
    · exact T.keep _ _ _ st1 fun b hb o e => kp5 _ b o (kp3 b o (nP b hb) e)
    · obtain ⟨z1, z2, z3, z4, z5, z6⟩ := f1 b hb
      exact ⟨by rw [upd_ne (nP b hb)]; exact z1, z2, z3, z4, z5, z6⟩
    · obtain ⟨o, e, _⟩ := T.obj _ _ st1 b hb
      exact Heap.lt_size (kp3 b o (nP b hb) e)
    · exact I1.bare.push rfl
    · show h3.objs.size < h'.objs.size
      omega
  refine ⟨I1.nolimit, ?_⟩
  cases hf : codeAmong gpos ps.toList with
  | none =>
    refine wpAny_genexprCodeX hcode (cd.code hPs ht) (cd.tab hPs) hf fun c' h' tk hx hge hlt hco' _ htab' _ => ?_
    obtain ⟨o1, vs, f1, tf, fl, tg, inF, tx, tt, op, _, _, _, _, _, _, _, _, _, htr, _⟩ := hco'
    exact go _ h' tk _ hx htab'.2 htr
  | some cv =>
    refine wpAny_genexprCode_hit hcode (cd.code hPs ht) hf ?_
    exact go cv s2.heap s2.toks #[] (fun _ _ _ e => e) (by simpa using hPs) (by simpa using ht)
end
end Mw

namespace Mw
open PySem PySem.Spec PyProof.Rows L2 GenW
/-! ### the first turn; the drawing by all, any -/
section
variable {α : Type} {sl : List Addr} {X : Cx} {pins : List (Addr × Obj)} {σ : L2.St}
abbrev gG (elt tg iter : Expr) (ifs : List Expr) (scope : Scope) (pos : Pos) : Expr := .GeneratorExp elt [⟨tg, iter, ifs, 0⟩] scope pos
abbrev gB (Ag : Around) (elt tg iter : Expr) (ifs : List Expr) (scope : Scope) (pos : Pos) (it : Addr) (cenv : Env) : Around := Ag.over (.compLoop (gG elt tg iter ifs scope pos) 0 (.ref it) .none cenv) []
theorem ga_of {Ag : Around} {elt tg iter : Expr} {ifs : List Expr} {scope : Scope} {pos : Pos} {it : Addr} {cenv : Env} {k : Nat} (hr : Room k X.A) (hf : X.A.frames = some X.stack)
    (h1 : Ag.handled = X.A.handled) (h2 : Ag.frames = X.A.frames) (h3 : Ag.guards = X.A.guards) (h4 : Ag.depth = X.A.depth) (h5 : Ag.units ≤ X.A.units + 8) : GA X cenv (gB Ag elt tg iter ifs scope pos it cenv) := by
  refine ⟨h1.trans hr.hd, ?_, ?_, ?_, ?_⟩
  · show pushEnvs [cenv] (pushEnvs [] Ag.frames) = _
    rw [h2, hf]
    rfl
  · show pushGuards [] (pushGuards [] Ag.guards) = _
    rw [h3]
    rfl
  · show Ag.depth + 0 + 1 ≤ _
    omega
  · show Ag.units + 0 + 3 ≤ _
    omega
/-- the generator may be woken -/
theorem gen_goes {Ag : Around} {elt tg iter : Expr} {ifs : List Expr} {scope : Scope} {own : List (Str × Nat)} {pos : Pos} {ga g : Nat} {t : Shared} {it : Addr} {fp : List Addr} {tn : Nat → Heap → Prop} {J : It} {H : Hp} {s : Shared} {code : Value} {gg : TG} {tt : TT} {te : TE}
    {W : Nat → Nat → α → Hp → Prop} {Fi : α → V → Hp → Prop} {En : α → Hp → Prop} {k m n : Nat} {a : α} {t2 : Shared} (c : Con α sl)
    (M : GMk X pins σ elt tg iter ifs scope pos ga g t it fp tn J H s code) (hr : Room k X.A) (ok : BlkOk X.N X.env.scope scope own) (nc : ∀ y ∈ scope.names, y.2 ≠ .cell) (hN : X.N.Nodup) (hco : scope.isCoroutine = false)
    (hsl : ∀ b ∈ sl, s.heap.objs.size < b) (ga_ : GA X (gEnv X scope s.heap.objs.size code) (gB Ag elt tg iter ifs scope pos it (gEnv X scope s.heap.objs.size code)))
    (pg : PG (gcx X (gB Ag elt tg iter ifs scope pos it (gEnv X scope s.heap.objs.size code)) s H (gEnv X scope s.heap.objs.size code) fp) tg gg)
    (pt : PTs (gcx X (gB Ag elt tg iter ifs scope pos it (gEnv X scope s.heap.objs.size code)) s H (gEnv X scope s.heap.objs.size code) fp) ifs tt)
    (pe : PE (gcx X (gB Ag elt tg iter ifs scope pos it (gEnv X scope s.heap.objs.size code)) s H (gEnv X scope s.heap.objs.size code) fp) elt te)
    (tu : turns J gg tt te (own.map (·.2)) c.stp Fi En σ W) (w0 : W 0 m a H) (hmn : m < n) (os2 : t2.os = t.os) (bare2 : AllBare t2.gens) (kp2 : ∀ b o, t.heap.get? b = some o → t2.heap.get? b = some o) (cs2 : c.cs a t2.heap) :
    (GenState.fresh (.compStart (gG elt tg iter ifs scope pos) 0 (.ref it) .none (gEnv X scope s.heap.objs.size code))).Goes (model X.prog X.w) Ag
      (fun n s0 r s1 => r = .ok .next ∧ gR (gcx X (gB Ag elt tg iter ifs scope pos it (gEnv X scope s.heap.objs.size code)) s H (gEnv X scope s.heap.objs.size code) fp) c En n s0 s1)
      (gY (gcx X (gB Ag elt tg iter ifs scope pos it (gEnv X scope s.heap.objs.size code)) s H (gEnv X scope s.heap.objs.size code) fp) c Fi) n (.send .none) t2 := by
  obtain ⟨mm, ns⟩ := M.ns
  have I0 := gen_start (t := t2) (m := mm) M.inv ok nc hN M.fok ga_ (os2.trans M.os) bare2 (fun b o e => kp2 b o (M.kp b o e)) (ns.keeps kp2)
  have st0 : tn 0 t2.heap := M.turn.keep _ _ _ M.st fun b _ o e => kp2 b o e
  have nsl : ∀ b ∈ sl, H b = none := fun b hb => M.inv.hok.fresh (Nat.le_of_lt (hsl b hb))
  have nfp : ∀ b ∈ fp, H b = none := fun b hb => (M.fok b hb).1.1
  have loop := gen_loop (iter := iter) (scope := scope) (pos := pos) (Ag := Ag) (Fi := Fi) (En := En) (W := W) (σ := σ) (vs := own.map (·.2)) c rfl rfl rfl rfl M.turn
    (fun b hb hb2 => absurd (Nat.lt_trans (M.fok b hb).2 (hsl b hb2)) (Nat.lt_irrefl _))
    (fun b hb => ⟨Nat.ne_of_gt (hsl b hb), fun z => ?_, Nat.le_of_lt (hsl b hb), fun x cc e z => ?_⟩) pg pt pe hco rfl tu m n 0 a t2 t2 H hmn w0 I0 st0 nfp nsl cs2
  · refine ⟨rfl, ?_⟩
    show Seg _ Ag _ _ _ t2 _ ((compStart (gG elt tg iter ifs scope pos) 0 (.ref it) .none (gEnv X scope s.heap.objs.size code)).onRaise (leaving (gEnv X scope s.heap.objs.size code))) [] t2
    unfold compStart
    rw [Sem.onRaise_eq_wrap]
    show Seg _ Ag _ _ _ t2 _ ((ask >>= _).wrap _ _ _ _) [] t2
    refine seg_bind_wrap (wpAny_askSetting ?_)
    split
    · exact seg_again rfl loop
    · first
        | exact seg_bind_wrap (wpAny_rule (seg_bind_wrap (wpAny_standAt (seg_bind_wrap (M.turn.self _ 0 t2 _ _ st0 (seg_again rfl loop))))))
        | (refine seg_bind_wrap (wpAny_rule ?_); show Seg _ Ag _ _ _ t2 _ ((standAt iter.pos >>= _).wrap _ _ _ _) [] t2; exact seg_bind_wrap (wpAny_standAt (seg_bind_wrap (M.turn.self _ 0 t2 _ _ st0 (seg_again rfl loop)))))
  · obtain ⟨_, o, ho, _⟩ := M.inv.stack.mem (show b ∈ frs X.stack from z)
    exact absurd (Nat.lt_trans (Heap.lt_size ho) (hsl b hb)) (Nat.lt_irrefl _)
  · have lt := (I0.cell x cc e)
    obtain ⟨u, hu⟩ := lt
    have e' : (cloFrom X.env.cells scope.names []).lookup x = some cc := e
    rcases cloFrom_mem (PySem.mem_of_lookup e') with hm | ⟨h1, h2⟩
    · cases hm
    · have hfree : ∃ c1, X.env.cells.lookup x = some c1 := by
        rcases ok.free _ h1 rfl with q | q
        · exact M.inv.ok.has _ (.inl q)
        · exact M.inv.ok.has _ (.inr q)
      obtain ⟨c1, hc1⟩ := hfree
      rw [hc1] at h2
      have h2' : cc = c1 := h2
      obtain ⟨u1, z1⟩ := M.inv.cell _ _ hc1
      have := z1.lt
      rw [← h2', z] at this
      exact absurd (Nat.lt_trans this (hsl b hb)) (Nat.lt_irrefl _)
/-- back in the def -/
theorem gen_back {B : Around} {H H' : Hp} {s s' : Shared} {cenv : Env} {fp : List Addr} {ps : List (Addr × Obj)} {σ' : L2.St} {g : Nat} {x : GenState} (I : Inv X pins σ H s) (fok : ∀ b ∈ fp, FpOk X pins H b) (J : Inv (gcx X B s H cenv fp) ps σ' H' s') (hx : x.bare = true) :
    Inv X pins σ H' (s'.setGen g x) :=
  I.call' (ch := fp) (s' := s'.setGen g x) J.os J.base J.hok (allBare_setGen J.bare hx) fun b hb => ⟨(fok b hb).2.2.2.1, (fok b hb).2.1, (fok b hb).2.2.2.2.1, (fok b hb).2.2.2.2.2⟩
/-- all draws -/
def conA (ga g : Nat) (go : Bool) : Con Unit [ga] where
  stp := fun _ y => if y = .bl go then some () else none
  cs := fun _ h => h.IsGen ga g
  ob := fun _ h hc b hb => by
    obtain ⟨o, nm, qn, ho, h1, h2, h3⟩ := hc
    rw [List.mem_singleton.mp hb]
    exact ⟨o, ho, fun v z => by rw [h2] at z; cases z⟩
  kp := fun _ h h' hc k => by
    obtain ⟨o, nm, qn, ho, r⟩ := hc
    exact ⟨o, nm, qn, k _ (by simp) o ho, r⟩
theorem idle_set {s1 : Shared} {g : Nat} {x y : GenState} {ga : Addr} (hb : AllBare s1.gens) (hx : x.bare = true) (hy : y.bare = true) (hg : s1.heap.IsGen ga g) : Idle [ga] s1 ((s1.setGen g x).setGen g y) :=
  ⟨rfl, allBare_setGen (s := s1.setGen g x) (allBare_setGen hb hx) hy, fun _ _ _ e => e, fun b hb => by
    obtain ⟨o, nm, qn, ho, _⟩ := hg
    rw [List.mem_singleton.mp hb]
    exact ⟨o, ho⟩⟩
theorem all_loop {P : Program} {w : World} {A : Around} {Y : Cx} (hYP : Y.prog = P) (hYw : Y.w = w) {ga g : Nat} {Rr : Result → Shared → Prop} {Q : Bool → Hp → Prop} (hh : A.handled = none) (hd : A.depth < recursionLimit)
    (hE : ∀ ps σ H s1 h' x, x.bare = true → Inv Y ps σ H s1 → Q true H → (∀ b o, s1.heap.get? b = some o → h'.get? b = some o) → Rr (.ok (.ret (.bool true))) { s1.setGen g x with heap := h' })
    (hF : ∀ ps σ H s1 x, x.bare = true → Inv Y ps σ H s1 → Q false H → Rr (.ok (.ret (.bool false))) (s1.setGen g x)) :
    ∀ (n : Nat) (s : Shared), s.heap.IsGen ga g → s.heap.NoLimit →
      (∃ gs, s.gens[g]? = some gs ∧ gs.Goes (model P w) A.in1.in1 (fun n s0 r s1 => r = .ok .next ∧ gR Y (conA ga g true) (fun _ H => Q true H) n s0 s1) (gY Y (conA ga g true) fun _ y H => y = .bl false ∧ Q false H) n (.send .none) (s.setGen g .running)) →
      codeAny (model P w) A (.builtin "all.loop" ⟨[.ref ga], []⟩) Rr s := by
  subst hYP hYw
  intro n
  induction n with
  | zero =>
    intro s hg hl ⟨gs, hgs, hgo⟩
    refine codeAny_builtin F.entry_all_loop ?_
    rw [Around.under_plainId F.plain_all_loop _]
    show wpAny _ A.in1 (pyNext (.ref ga) >>= _) _ _ s
    refine wpAny_bind (wpAny_pyNext_genexpQ (A := A.in1) hh hl hd hg hgs hgo (fun v s1 gs' hb hv => ?_) fun s1 hp h' hk => ?_)
    · obtain ⟨a, y, ps, σ, H, ry, I, _, _, q⟩ := hv
      rcases q with ⟨_, rfl, q⟩ | ⟨a', q1, q2⟩
      · cases ry
        refine wpAny_bind (wpAny_holding (wpAny_truthy_bool ?_))
        refine wpAny_bind (wpAny_letGo ?_)
        simp only [Bool.false_eq_true, if_false]
        refine wpAny_bind (wpAny_rule (wpAny_pure ?_))
        exact hF ps σ H s1 gs' hb I q
      · have hi : s1.heap.IsGen ga g := by assumption
        exact (q2 _ (idle_set (x := .running) (y := .running) I.bare rfl rfl hi) hi).elim
    · obtain ⟨a, ps, σ, H, I, _, _, q⟩ := hp
      refine wpAny_bind (wpAny_rule (wpAny_pure ?_))
      exact hE ps σ H s1 h' .finished rfl I q hk
  | succ n ih =>
    intro s hg hl ⟨gs, hgs, hgo⟩
    have hgl : g < s.gens.size := (Array.getElem?_eq_some_iff.mp hgs).1
    refine codeAny_builtin F.entry_all_loop ?_
    rw [Around.under_plainId F.plain_all_loop _]
    show wpAny _ A.in1 (pyNext (.ref ga) >>= _) _ _ s
    refine wpAny_bind (wpAny_gsz (n := g + 1) hgl (wpAny_pyNext_genexpQ (A := A.in1) hh hl hd hg hgs hgo (fun v s1 gs' hb hv hsz => ?_) fun s1 hp h' hk hsz => ?_))
    · obtain ⟨a, y, ps, σ, H, ry, I, _, hi, q⟩ := hv
      rcases q with ⟨_, rfl, q⟩ | ⟨a', q1, q2⟩
      · cases ry
        refine wpAny_bind (wpAny_holding (wpAny_truthy_bool ?_))
        refine wpAny_bind (wpAny_letGo ?_)
        simp only [Bool.false_eq_true, if_false]
        refine wpAny_bind (wpAny_rule (wpAny_pure ?_))
        exact hF ps σ H s1 gs' hb I q
      · have ey : y = .bl true := by
          by_cases e : y = .bl true
          · exact e
          · have z : (conA ga g true).stp a y = none := if_neg e
            rw [z] at q1
            cases q1
        subst ey
        cases ry
        refine wpAny_bind (wpAny_holding (wpAny_truthy_bool ?_))
        refine wpAny_bind (wpAny_letGo ?_)
        simp only [if_true]
        have hi' : s1.heap.IsGen ga g := hi
        have hgl1 : g < s1.gens.size := by
          have e1 : (s1.setGen g gs').gens.size = s1.gens.size := setGen_size _ _ _
          omega
        refine wpAny_pure ⟨plainId_quiet F.plain_all_loop _, ih (s1.setGen g gs') hi' I.nolimit ⟨gs', setGen_at hgl1, ?_⟩⟩
        exact q2 _ (idle_set I.bare hb rfl hi') hi'
    · obtain ⟨a, ps, σ, H, I, _, _, q⟩ := hp
      refine wpAny_bind (wpAny_rule (wpAny_pure ?_))
      exact hE ps σ H s1 h' .finished rfl I q hk
end
end Mw

namespace Mw
open PySem PySem.Spec PyProof.Rows L2 GenW
/-! ### all(elt for tg in iter if ..) -/
abbrev stpA (go : Bool) : Unit → V → Option Unit := fun _ y => if y = .bl go then some () else none
def tAllG (P : Addr) (wi : TI) (g : TG) (tt : TT) (te : TE) (vs : List Nat) : TE := fun σ H Q => wi σ H fun J H1 => GxR.TabG H1 P ∧ ∀ H2, GxR.Tabbed P H1 H2 →
  ∃ W : Nat → Nat → Unit → Hp → Prop, (∃ m, W 0 m () H2) ∧ turns J g tt te vs (stpA true) (fun _ y H => y = .bl false ∧ Q (.bl false) H) (fun _ H => Q (.bl true) H) σ W
theorem boot_all : bootBuiltins "all" = some (.builtin "all") := by decide +kernel
section
variable {X : Cx}
/-- what a generator expression's parts are, in any frame of it -/
structure GParts (X : Cx) (elt tg iter : Expr) (ifs : List Expr) (scope : Scope) (own : List (Str × Nat)) (g : TG) (tt : TT) (te : TE) : Prop where
  ok : BlkOk X.N X.env.scope scope own
  nc : ∀ y ∈ scope.names, y.2 ≠ .cell
  co : scope.isCoroutine = false
  dot : scope.names.lookup (".0" : Str) = some NameKind.local
  hs : ∀ v, genFold iter X.env v = pure v
  pg : ∀ B s H C code fp, GA X (gEnv X scope C code) B → PG (gcx X B s H (gEnv X scope C code) fp) tg g
  pt : ∀ B s H C code fp, GA X (gEnv X scope C code) B → PTs (gcx X B s H (gEnv X scope C code) fp) ifs tt
  pe : ∀ B s H C code fp, GA X (gEnv X scope C code) B → PE (gcx X B s H (gEnv X scope C code) fp) elt te
theorem pe_allG {c P : Addr} {elt tg iter : Expr} {ifs : List Expr} {scope : Scope} {own : List (Str × Nat)} {p pos gpos : Pos} {wi : TI} {g : TG} {tt : TT} {te : TE} {k : Nat}
    (hr : Room k X.A) (hg : Gl X "all") (hm : X.mg "all" = none) (TB : GxR.TabB X.base X.mg c P) (hcode : X.env.code = .ref c) (hN : X.N.Nodup) (hi : PI X tg iter wi) (G : GParts X elt tg iter ifs scope own g tt te)
    (he : starEach [gG elt tg iter ifs scope gpos] X.env = (false, eval (gG elt tg iter ifs scope gpos) X.env) :: starEach [] X.env := by rfl) :
    PE X (.Call (.Name "all" p) [gG elt tg iter ifs scope gpos] [] pos) (tAllG P wi g tt te (own.map (·.2))) := by
  refine ⟨fun pins s σ H Q I h => ?_⟩
  refine wpAny_Call_Name_kw (ld_blt I hg hm boot_all ?_)
  refine PyProof.Rows.callWith_builtin1 ?_ he (by rfl)
  rw [he]
  show wpAny _ _ (spliced ((false, eval (gG elt tg iter ifs scope gpos) X.env) :: backTo pos (starEach [] X.env))) _ _ s
  refine Calls.spliced_cons (gen_eval (R := fun J H2 => ∃ W : Nat → Nat → Unit → Hp → Prop, (∃ m, W 0 m () H2) ∧ turns J g tt te (List.map (fun q : Str × Nat => q.2) own) (stpA true) (fun _ y H => y = .bl false ∧ Q (.bl false) H) (fun _ H => Q (.bl true) H) σ W)
    hr TB hcode hi G.ok G.nc G.co G.dot G.hs I h fun ga gn t it fp tn J H2 s2 code M hR => ?_)
  obtain ⟨W, ⟨m, w0⟩, tu⟩ := hR
  refine Calls.spliced_nil ?_
  refine call_function_tree F.kind_all F.plain_all F.entry_all (F.args_all1 _) ?_
  unfold Builtin.«all»
  refine wpAny_bind (m := oneArg "all" _) (wpAny_pure ?_)
  refine wpAny_bind (wpAny_pyIter_gen M.isg ?_)
  have ga_ : GA X (gEnv X scope s2.heap.objs.size code) (gB X.A.in1.in1 elt tg iter ifs scope gpos it (gEnv X scope s2.heap.objs.size code)) :=
    ga_of hr M.inv.ok.frames rfl rfl rfl rfl (by show X.A.units + 1 + 1 ≤ _; omega)
  have fok : ∀ b ∈ fp, FpOk X pins H2 b := fun b hb => (M.fok b hb).1
  refine wpAny_pure ⟨plainId_quiet F.plain_all_loop _, all_loop (Y := gcx X (gB X.A.in1.in1 elt tg iter ifs scope gpos it (gEnv X scope s2.heap.objs.size code)) s2 H2 (gEnv X scope s2.heap.objs.size code) fp) (Q := fun b H => Q (.bl b) H) rfl rfl hr.hd hr.depth
    (fun ps σ' H' s1 h' x hx J' q hk => ?_) (fun ps σ' H' s1 x hx J' q => ?_) (m + 1) t M.isg ?_ ⟨_, M.gen, ?_⟩⟩
  · refine ⟨.bl true, H', ?_, rfl, q⟩
    exact (gen_back M.inv fok J' hx).kept (t' := s1.toks) hk
  · exact ⟨.bl false, H', gen_back M.inv fok J' hx, rfl, q⟩
  · exact M.inv.nolimit.keeps M.kp
  · exact gen_goes (c := conA ga gn true) M hr G.ok G.nc hN G.co (fun b hb => by rw [List.mem_singleton.mp hb]; exact M.ga) ga_
      (G.pg _ _ _ _ _ _ ga_) (G.pt _ _ _ _ _ _ ga_) (G.pe _ _ _ _ _ _ ga_) tu w0 (Nat.lt_succ_self _) rfl (allBare_setGen M.bare rfl) (fun _ _ e => e) M.isg
end
end Mw

namespace Mw
open PySem PySem.Spec PyProof.Rows L2 GenW
/-! ### tuple(elt for tg in iter if ..) -/
abbrev stpL : List V → V → Option (List V) := fun a y => if a.length < sizeLine then some (a ++ [y]) else none
def conL (S ga g : Nat) : Con (List V) [S, ga] where
  stp := stpL
  cs := fun a h => h.IsGen ga g ∧ a.length ≤ sizeLine ∧ ∃ acc c, h.get? S = some (lstObj acc c) ∧ Vals a acc.toList
  ob := fun a h hc b hb => by
    obtain ⟨⟨o, nm, qn, ho, h1, h2, h3⟩, _, acc, c, hS, _⟩ := hc
    rcases List.mem_cons.mp hb with e | hb
    · rw [e]; exact ⟨_, hS, fun v z => by cases z⟩
    · rw [List.mem_singleton.mp hb]
      exact ⟨o, ho, fun v z => by rw [h2] at z; cases z⟩
  kp := fun a h h' hc k => by
    obtain ⟨⟨o, nm, qn, ho, r⟩, hl, acc, c, hS, rv⟩ := hc
    exact ⟨⟨o, nm, qn, k _ (by simp) o ho, r⟩, hl, acc, c, k _ (by simp) _ hS, rv⟩
theorem ext_loop {P : Program} {w : World} {A : Around} {Y : Cx} (hYP : Y.prog = P) (hYw : Y.w = w) {S ga g : Nat} {res : Value} {Rr : Result → Shared → Prop} {Q : List V → Hp → Prop} (hh : A.handled = none) (hd : A.depth < recursionLimit) (hSa : S ≠ ga) (hSc : S ≠ cStatics)
    (hE : ∀ ps σ H s1 h' x ys acc c, x.bare = true → Inv Y ps σ H s1 → Q ys H → ys.length ≤ sizeLine → s1.heap.get? S = some (lstObj acc c) → Vals ys acc.toList → (∀ b o, s1.heap.get? b = some o → h'.get? b = some o) → Rr (.ok (.ret res)) { s1.setGen g x with heap := h' }) :
    ∀ (n : Nat) (s : Shared), s.heap.IsGen ga g → s.heap.NoLimit →
      (∃ gs, s.gens[g]? = some gs ∧ gs.Goes (model P w) A.in1.in1 (fun n s0 r s1 => r = .ok .next ∧ gR Y (conL S ga g) Q n s0 s1) (gY Y (conL S ga g) fun _ _ _ => False) n (.send .none) (s.setGen g .running)) →
      codeAny (model P w) A (.builtin "list.extend.loop" ⟨[.ref S, .ref ga, res], []⟩) Rr s := by
  subst hYP hYw
  have idl : ∀ {s1 : Shared} {gs' : GenState} {acc : Array Value} {c : Nat} {v : Value}, AllBare s1.gens → gs'.bare = true → s1.heap.IsGen ga g → s1.heap.get? S = some (lstObj acc c) →
      Idle [S, ga] s1 (({ s1.setGen g gs' with heap := s1.heap.update S (Obj.mapSeq (·.push v)) } : Shared).setGen g .running) := fun {s1 gs' acc c v} hb hx hg hS => by
    refine ⟨rfl, allBare_setGen (s := s1.setGen g gs') (allBare_setGen hb hx) rfl, fun b o hn e => ?_, fun b hb => ?_⟩
    · exact (Heap.get?_update_other _ _ (Ne.symm fun z => hn (by simp [z]))).trans e
    · rcases List.mem_cons.mp hb with e | hb
      · rw [e]; exact ⟨_, Heap.get?_update_self (Obj.mapSeq (·.push v)) hS rfl⟩
      · obtain ⟨o, nm, qn, ho, _⟩ := hg
        rw [List.mem_singleton.mp hb]
        exact ⟨o, (Heap.get?_update_other _ _ hSa).trans ho⟩
  have pushd : ∀ {s1 : Shared} {gs' : GenState} {acc : Array Value} {c : Nat} {a : List V} {y : V} {v : Value}, s1.heap.IsGen ga g → s1.heap.get? S = some (lstObj acc c) → Vals a acc.toList → RelV y v → a.length < sizeLine →
      (conL S ga g).cs (a ++ [y]) (s1.heap.update S (Obj.mapSeq (·.push v))) := fun {s1 gs' acc c a y v} hg hS rv ry hl => by
    obtain ⟨o, nm, qn, ho, r⟩ := hg
    refine ⟨⟨o, nm, qn, (Heap.get?_update_other _ _ hSa).trans ho, r⟩, by rw [List.length_append, List.length_singleton]; omega, acc.push v, _, Heap.get?_update_self (Obj.mapSeq (·.push v)) hS rfl, ?_⟩
    rw [Array.toList_push]
    exact rv.append (.cons ry .nil)
  intro n
  induction n with
  | zero =>
    intro s hg hl ⟨gs, hgs, hgo⟩
    refine codeAny_builtin F.entry_extend_loop ?_
    rw [Around.under_plainId F.plain_extend_loop _]
    show wpAny _ A.in1 (pyNext (.ref ga) >>= _) _ _ s
    refine wpAny_bind (wpAny_pyNext_genexpQ (A := A.in1) hh hl hd hg hgs hgo (fun v s1 gs' hb hv => ?_) fun s1 hp h' hk => ?_)
    · obtain ⟨a, y, ps, σ, H, ry, I, _, hcs, q⟩ := hv
      obtain ⟨hi, hla, acc, c, hS, rv⟩ := hcs
      rcases q with ⟨_, q⟩ | ⟨a', q1, q2⟩
      · exact q.elim
      · have hlt : a.length < sizeLine := by
          by_cases z : a.length < sizeLine
          · exact z
          · have q1' : (if a.length < sizeLine then some (a ++ [y]) else none) = some a' := q1
            rw [if_neg z] at q1'
            cases q1'
        have ea : a' = a ++ [y] := by
          have q1' : (if a.length < sizeLine then some (a ++ [y]) else none) = some a' := q1
          rw [if_pos hlt] at q1'
          exact (Option.some.inj q1').symm
        subst ea
        exact (q2 _ (idl (v := v) (gs' := gs') I.bare hb hi hS) (pushd (gs' := gs') hi hS rv ry hlt)).elim
    · obtain ⟨a, ps, σ, H, I, _, ⟨hi, hla, acc, c, hS, rv⟩, q⟩ := hp
      exact wpAny_pure (hE ps σ H s1 h' .finished a acc c rfl I q hla hS rv hk)
  | succ n ih =>
    intro s hg hl ⟨gs, hgs, hgo⟩
    have hgl : g < s.gens.size := (Array.getElem?_eq_some_iff.mp hgs).1
    refine codeAny_builtin F.entry_extend_loop ?_
    rw [Around.under_plainId F.plain_extend_loop _]
    show wpAny _ A.in1 (pyNext (.ref ga) >>= _) _ _ s
    refine wpAny_bind (wpAny_gsz (n := g + 1) hgl (wpAny_pyNext_genexpQ (A := A.in1) hh hl hd hg hgs hgo (fun v s1 gs' hb hv hsz => ?_) fun s1 hp h' hk hsz => ?_))
    · obtain ⟨a, y, ps, σ, H, ry, I, _, hcs, q⟩ := hv
      obtain ⟨hi, hla, acc, c, hS, rv⟩ := hcs
      rcases q with ⟨_, q⟩ | ⟨a', q1, q2⟩
      · exact q.elim
      · have hlt : a.length < sizeLine := by
          by_cases z : a.length < sizeLine
          · exact z
          · have q1' : (if a.length < sizeLine then some (a ++ [y]) else none) = some a' := q1
            rw [if_neg z] at q1'
            cases q1'
        have ea : a' = a ++ [y] := by
          have q1' : (if a.length < sizeLine then some (a ++ [y]) else none) = some a' := q1
          rw [if_pos hlt] at q1'
          exact (Option.some.inj q1').symm
        subst ea
        have hsa : acc.size < sizeLine := by
          have e1 : a.length = acc.toList.length := rv.length
          have e2 : acc.toList.length = acc.size := Array.length_toList ..
          omega
        have hgl1 : g < s1.gens.size := by
          have e1 : (s1.setGen g gs').gens.size = s1.gens.size := setGen_size _ _ _
          omega
        show wpAny _ A.in1 (updateSeq S (·.push v) >>= _) _ _ _
        refine wpAny_bind ?_
        refine wpAny_updateSeq hS rfl (wpAny_pure ⟨plainId_quiet F.plain_extend_loop _, ?_⟩) (Nat.le_of_lt hsa) (by show (acc.push v).size ≤ sizeLine + 1; rw [Array.size_push]; omega)
        have cs' := pushd (gs' := gs') hi hS rv ry hlt
        refine ih { s1.setGen g gs' with heap := s1.heap.update S (Obj.mapSeq (·.push v)) } cs'.1 ?_ ⟨gs', setGen_at hgl1, ?_⟩
        · obtain ⟨mc, hns, hnn⟩ := I.nolimit
          exact ⟨mc, hns.at' fun o e => (Heap.get?_update_other _ _ hSc).trans e, hnn⟩
        · exact q2 _ (idl (v := v) I.bare hb hi hS) cs'
    · obtain ⟨a, ps, σ, H, I, _, ⟨hi, hla, acc, c, hS, rv⟩, q⟩ := hp
      exact wpAny_pure (hE ps σ H s1 h' .finished a acc c rfl I q hla hS rv hk)
section
variable {P : Program} {w : World} {A : Around} {E : Value → Shared → Prop} {s : Shared}
theorem collect_gen {ga g : Nat} {R : List Value → Shared → Prop} (hg : s.heap.IsGen ga g)
    (loop : ∀ (h' : Heap) (c : Nat), (∀ b o, s.heap.get? b = some o → h'.get? b = some o) → h'.get? s.heap.objs.size = some (lstObj #[] c) →
      codeAny (model P w) A (.builtin "list.extend.loop" ⟨[.ref s.heap.objs.size, .ref ga, .ref s.heap.objs.size], []⟩) (fun r s' => r = .ok (.ret (.ref s.heap.objs.size)) ∧ ∃ acc c, s'.heap.get? s.heap.objs.size = some (lstObj acc c) ∧ R acc.toList s') { s with heap := h' }) :
    wpAny (model P w) A (collect (.ref ga)) R E s := by
  have hga : ga < s.heap.objs.size := let ⟨_, _, _, ho, _⟩ := hg; Heap.lt_size ho
  have hSa : s.heap.objs.size ≠ ga := Nat.ne_of_gt hga
  unfold collect
  refine wpAny_bind (wpAny_runValue (codeAny_builtin F.entry_proto_collect ?_))
  rw [Around.under_plainId F.plain_proto_collect _]
  show wpAny _ A.in1 (newList [] >>= fun l => again (.builtin "list.__iadd__" ⟨[l, .ref ga], []⟩)) _ _ s
  refine wpAny_bind (wpAny_newObj_type ?_)
  refine wpAny_pure ⟨plainId_quiet F.plain_list_iadd _, codeAny_builtin F.entry_list_iadd ?_⟩
  rw [Around.under_plainId F.plain_list_iadd _]
  show wpAny _ A.in1 (Builtin.List.listExtendWith (.ref s.heap.objs.size) (.ref ga) (.ref s.heap.objs.size)) _ _ _
  have hS : (s.heap.push { cls := .type "list", data := .seq ([] : List Value).toArray }).get? s.heap.objs.size = some { cls := .type "list", data := .seq #[] } := Heap.get?_push_size _ rfl
  have up : ∀ (h : Heap) (f : Obj → Obj), (∀ b o, s.heap.get? b = some o → h.get? b = some o) → ∀ b o, s.heap.get? b = some o → (h.update s.heap.objs.size f).get? b = some o := fun h f q b o e =>
    (Heap.get?_update_other _ _ (Ne.symm (Nat.ne_of_lt (Heap.lt_size e)))).trans (q b o e)
  have k1 : ∀ b o, s.heap.get? b = some o → (s.heap.push { cls := .type "list", data := .seq ([] : List Value).toArray }).get? b = some o := fun b o e => Heap.get?_push_of_some _ e
  have gty : ∀ {h : Heap}, (∀ b o, s.heap.get? b = some o → h.get? b = some o) → h.IsGen ga g := fun {h} q => hg.keeps q
  unfold Builtin.List.listExtendWith
  refine wpAny_bind (wpAny_typeOf (Heap.IsGen.typeIs (s := { s with heap := _ }) (gty k1)) ?_)
  have h1 : Builtin.List.listSameRef (.ref s.heap.objs.size) (.ref ga) = false := by simp [Builtin.List.listSameRef, hSa]
  have h2 : (Value.type "generator" == Value.type "list") = false := by decide
  have h3 : (Value.type "generator" == Value.type "tuple") = false := by decide
  simp only [h1, h2, h3, Bool.or_false, Bool.false_eq_true, if_false]
  refine wpAny_bind (wpAny_pyIter_gen (s := { s with heap := _ }) (gty k1) ?_)
  refine wpAny_bind (wpAny_holding ?_)
  unfold Builtin.List.listLengthHint
  refine wpAny_bind (wpAny_specialOf (Heap.IsGen.typeIs (s := { s with heap := _ }) (gty k1)) F.gen_no_len ?_)
  show wpAny _ A.in1 (specialOf (Value.ref ga) (Str.ofString "__length_hint__") >>= _) _ _ _
  refine wpAny_bind (wpAny_specialOf (Heap.IsGen.typeIs (s := { s with heap := _ }) (gty k1)) F.gen_no_hint ?_)
  refine wpAny_pure ?_
  show wpAny _ A.in1 (rule "list.extend.makes-room" >>= fun _ => Builtin.List.listTouch (.ref s.heap.objs.size) >>= fun _ =>
    again (.builtin "list.extend.loop" ⟨[.ref s.heap.objs.size, .ref ga, .ref s.heap.objs.size], []⟩)) _ _ _
  refine wpAny_bind (wpAny_rule ?_)
  refine wpAny_bind ?_
  show wpAny _ A.in1 (updateSeq s.heap.objs.size (·.push .none) >>= fun _ => updateSeq s.heap.objs.size (·.pop)) _ _ _
  refine wpAny_bind (wpAny_updateSeq hS rfl ?_)
  have hS3 := Heap.get?_update_self (Obj.mapSeq (·.push Value.none)) hS rfl
  refine wpAny_updateSeq (hz := by seq_fits) hS3 rfl ?_
  have hS4 := Heap.get?_update_self (Obj.mapSeq (·.pop)) hS3 rfl
  have k4 := up _ (Obj.mapSeq (·.pop)) (up _ (Obj.mapSeq (·.push Value.none)) k1)
  refine wpAny_pure ⟨plainId_quiet F.plain_extend_loop _, codeAny_mono (loop _ _ k4 hS4) fun rr s'' hr' => ?_⟩
  obtain ⟨rfl, acc, c', hS', hi⟩ := hr'
  show wpAny _ A (load s.heap.objs.size >>= _) _ _ _
  exact wpAny_bind (wpAny_load hS' (wpAny_pure hi))
theorem call_tuple_gen {ga g : Nat} {Q : Value → Shared → Prop} (hg : s.heap.IsGen ga g)
    (loop : ∀ (h' : Heap) (c : Nat), (∀ b o, s.heap.get? b = some o → h'.get? b = some o) → h'.get? s.heap.objs.size = some (lstObj #[] c) →
      codeAny (model P w) A.in1.in1 (.builtin "list.extend.loop" ⟨[.ref s.heap.objs.size, .ref ga, .ref s.heap.objs.size], []⟩) (fun r s' => r = .ok (.ret (.ref s.heap.objs.size)) ∧ ∃ acc c, s'.heap.get? s.heap.objs.size = some (lstObj acc c) ∧ acc.size ≤ sizeLine ∧
        Q (.ref s'.heap.objs.size) { s' with heap := s'.heap.push { cls := .type "tuple", data := .seq acc } }) { s with heap := h' }) :
    wpAny (model P w) A (call (.type "tuple") [.ref ga]) Q E s := by
  refine callType_codes (Q₁ := fun obj s₁ => s₁.TypeIs obj "tuple" ∧ Q obj s₁) F.called_tuple (F.typeCall_tuple_1 _) F.entry_object_init ?_ fun obj s₁ h₁ =>
    ⟨h₁.1, F.args_object_init_2 obj _, object_init_meets F.called_tuple.init.lookup F.called_tuple.made (by decide) P w A.in1 _ s₁ ⟨h₁.1, rfl, h₁.2⟩⟩
  refine codeAny_of_tree ?_
  show wpAny _ A.in1.in1 (do checkBuiltinCall "tuple.__new__" ⟨[.type "tuple", .ref ga], []⟩; again (.builtin "tuple.__new__" ⟨[.type "tuple", .ref ga], []⟩)) _ _ s
  refine wpAny_bind (wpAny_of_eq (F.newCall_tuple_1 _) (wpAny_pure ⟨plainId_quiet F.plain_tuple_new _, codeAny_builtin F.entry_tuple_new ?_⟩))
  rw [Around.under_plainId F.plain_tuple_new _]
  have hsub := sub_tuple_self
  have hinit := init_tuple_lookup
  have hmh := madeHere_tuple
  have hTI : s.TypeIs (.ref ga) "generator" := hg.typeIs
  wp_walk using wpAny_typeOf hTI, collect_gen (A := A.in1.in1) hg
  intro h' c kp hS
  refine codeAny_mono (loop h' c kp hS) fun r s' x => ?_
  obtain ⟨e, acc, c', hS', hz, q⟩ := x
  refine ⟨e, acc, c', hS', ?_⟩
  show wpAny _ _ (Builtin.Tuple.tupleExact acc.toList.toArray >>= fun v => ret v) _ _ _
  unfold Builtin.Tuple.tupleExact
  refine wpAny_bind (wpAny_newObj_type ?_ (by show acc.toList.toArray.size ≤ sizeLine; simp only [Array.toArray_toList]; exact hz))
  refine wpAny_pure ?_
  have e : acc.toList.toArray = acc := by simp
  rw [e]
  exact ⟨⟨_, Heap.get?_push_size _ rfl, rfl⟩, q⟩
end
def tTupG (P : Addr) (wi : TI) (g : TG) (tt : TT) (te : TE) (vs : List Nat) : TE := fun σ H Q => wi σ H fun J H1 => GxR.TabG H1 P ∧ ∀ H2, GxR.Tabbed P H1 H2 →
  ∃ W : Nat → Nat → List V → Hp → Prop, (∃ m, W 0 m [] H2) ∧ turns J g tt te vs stpL (fun _ _ _ => False) (fun ys H => ∀ q, H q = none → Q (.ref q) (upd H q (.tup ys))) σ W
section
variable {X : Cx}
theorem pe_tupG {c P : Addr} {elt tg iter : Expr} {ifs : List Expr} {scope : Scope} {own : List (Str × Nat)} {p pos gpos : Pos} {wi : TI} {g : TG} {tt : TT} {te : TE} {k : Nat}
    (hr : Room k X.A) (hg : Gl X "tuple") (hm : X.mg "tuple" = none) (TB : GxR.TabB X.base X.mg c P) (hcode : X.env.code = .ref c) (hN : X.N.Nodup) (hi : PI X tg iter wi) (G : GParts X elt tg iter ifs scope own g tt te)
    (he : starEach [gG elt tg iter ifs scope gpos] X.env = (false, eval (gG elt tg iter ifs scope gpos) X.env) :: starEach [] X.env := by rfl) :
    PE X (.Call (.Name "tuple" p) [gG elt tg iter ifs scope gpos] [] pos) (tTupG P wi g tt te (own.map (·.2))) := by
  refine ⟨fun pins s σ H Q I h => ?_⟩
  refine wpAny_Call_Name_kw (ld_blt I hg hm (show bootBuiltins "tuple" = some (.type "tuple") by decide +kernel) ?_)
  refine PyProof.Rows.callWith_type1 ?_ he rfl
  rw [he]
  show wpAny _ _ (spliced ((false, eval (gG elt tg iter ifs scope gpos) X.env) :: backTo pos (starEach [] X.env))) _ _ s
  refine Calls.spliced_cons (gen_eval (R := fun J H2 => ∃ W : Nat → Nat → List V → Hp → Prop, (∃ m, W 0 m [] H2) ∧ turns J g tt te (List.map (fun q : Str × Nat => q.2) own) stpL (fun _ _ _ => False) (fun ys H => ∀ q, H q = none → Q (.ref q) (upd H q (.tup ys))) σ W)
    hr TB hcode hi G.ok G.nc G.co G.dot G.hs I h fun ga gn t it fp tn J H2 s2 code M hR => ?_)
  obtain ⟨W, ⟨m, w0⟩, tu⟩ := hR
  refine Calls.spliced_nil ?_
  have hgat : ga < t.heap.objs.size := let ⟨_, _, _, ho, _⟩ := M.isg; Heap.lt_size ho
  have nl : t.heap.NoLimit := M.inv.nolimit.keeps M.kp
  have hcl : cStatics < t.heap.objs.size := let ⟨_, hn, _⟩ := nl; hn.lt
  have ga_ : GA X (gEnv X scope s2.heap.objs.size code) (gB X.A.in1.in1.in1.in1 elt tg iter ifs scope gpos it (gEnv X scope s2.heap.objs.size code)) :=
    ga_of hr M.inv.ok.frames rfl rfl rfl rfl (by show X.A.units + 1 + 1 + 1 + 1 ≤ _; omega)
  have fok : ∀ b ∈ fp, FpOk X pins H2 b := fun b hb => (M.fok b hb).1
  refine call_tuple_gen M.isg fun h' c' kp hS => ?_
  refine ext_loop (Y := gcx X (gB X.A.in1.in1.in1.in1 elt tg iter ifs scope gpos it (gEnv X scope s2.heap.objs.size code)) s2 H2 (gEnv X scope s2.heap.objs.size code) fp) (Q := fun ys H => ∀ q, H q = none → Q (.ref q) (upd H q (.tup ys))) rfl rfl
    (show X.A.in1.in1.handled = none from hr.hd) (show X.A.in1.in1.depth < _ from hr.depth) (Nat.ne_of_gt hgat) (Nat.ne_of_gt hcl)
    (fun ps σ' H' s1 h1 x ys acc cc hx J' q hl hS1 rv hk => ⟨rfl, acc, cc, hk _ _ hS1, ?sz, ?inv⟩) (m + 1) { t with heap := h' } (M.isg.keeps kp) (nl.keeps kp) ⟨_, M.gen, ?go⟩
  case sz =>
    have e1 : ys.length = acc.toList.length := rv.length
    have e2 : acc.toList.length = acc.size := Array.length_toList ..
    omega
  case inv =>
    have I1 : Inv X pins σ H' { s1.setGen gn x with heap := h1 } := (gen_back M.inv fok J' hx).kept (t' := s1.toks) hk
    refine ⟨.ref _, _, I1.laid (t' := s1.toks) (o := .tup ys) (fun b ob z => Heap.get?_push_of_some _ z) (Nat.le_refl _) ?_, rfl, q _ (I1.hok.fresh (Nat.le_refl _))⟩
    exact ⟨hl, acc.toList, rv, by rw [Array.toArray_toList]; exact IsTup.new _ _⟩
  case go =>
    refine gen_goes (c := conL t.heap.objs.size ga gn) (t2 := ({ t with heap := h' } : Shared).setGen gn .running) M hr G.ok G.nc hN G.co (fun b hb => ?_) ga_ (G.pg _ _ _ _ _ _ ga_) (G.pt _ _ _ _ _ _ ga_) (G.pe _ _ _ _ _ _ ga_) tu w0 (Nat.lt_succ_self _) rfl (allBare_setGen (s := { t with heap := h' }) M.bare rfl) (fun b o e => kp b o e) ?_
    · rcases List.mem_cons.mp hb with e | hb
      · rw [e]; exact Nat.lt_trans M.ga hgat
      · rw [List.mem_singleton.mp hb]; exact M.ga
    · exact ⟨M.isg.keeps kp, Nat.zero_le _, #[], c', hS, .nil⟩
end
end Mw

namespace Mw
open PySem PySem.Spec PyProof.Rows L2
/-! ### data in the heap, kept -/
/-- lists, tuples, locked things stay -/
def Kd (H H' : Hp) : Prop := ∀ b o, H b = some o → ((∃ xs, o = .lst xs) ∨ (∃ xs, o = .tup xs) ∨ ∃ ob u, o = .frz ob u) → H' b = some o
theorem Kd.refl (H : Hp) : Kd H H := fun _ _ e _ => e
theorem Kd.trans {H H1 H2 : Hp} (a : Kd H H1) (b : Kd H1 H2) : Kd H H2 := fun c o e z => b c o (a c o e z) z
theorem Kd.new {H : Hp} {p : Addr} {o : HO} (n : H p = none) : Kd H (upd H p o) := fun b u e _ => by rw [upd_ne (ne_of_none e n)]; exact e
theorem Kd.over {H : Hp} {p : Addr} {o u : HO} (e : H p = some u) (h1 : ∀ xs, u ≠ .lst xs) (h2 : ∀ xs, u ≠ .tup xs) (h3 : ∀ ob y, u ≠ .frz ob y) : Kd H (upd H p o) := fun b z eb k => by
  have nb : b ≠ p := fun q => by
    rw [q, e] at eb
    cases eb
    rcases k with ⟨xs, k⟩ | ⟨xs, k⟩ | ⟨ob, y, k⟩
    · exact h1 xs k
    · exact h2 xs k
    · exact h3 ob y k
  rw [upd_ne nb]
  exact eb
theorem Same.kd {H H' : Hp} (s : Same H H') : Kd H H' := fun b o e _ => s b o e
theorem Kd.sqL {K : PySem.W.Frag} {H H' : Hp} {a : Addr} {xs : List V} (k : Kd H H') (h : SqL K H a xs) : SqL K H' a xs := by
  rcases h with (h | ⟨o, h⟩) | h
  · exact .inl (.inl (k _ _ h (.inl ⟨xs, rfl⟩)))
  · exact .inl (.inr ⟨o, k _ _ h (.inr (.inr ⟨_, _, rfl⟩))⟩)
  · exact .inr h
theorem Kd.sqT {K : PySem.W.Frag} {H H' : Hp} {a : Addr} {xs : List V} (k : Kd H H') (h : SqT K H a xs) : SqT K H' a xs := by
  rcases h with (h | ⟨o, h⟩) | h
  · exact .inl (.inl (k _ _ h (.inr (.inl ⟨xs, rfl⟩))))
  · exact .inl (.inr ⟨o, k _ _ h (.inr (.inr ⟨_, _, rfl⟩))⟩)
  · exact .inr h
mutual
theorem Kd.dp {K : PySem.W.Frag} {H H' : Hp} (k : Kd H H') : ∀ {d : PyData} {v : V}, Dp K H v d → Dp K H' v d
  | _, _, .non => .non
  | _, _, .bl b => .bl b
  | _, _, .int i => .int i
  | _, _, .str x => .str x
  | _, _, .lst h a => .lst (k.sqL h) (k.dpAll a)
  | _, _, .tup h a => .tup (k.sqT h) (k.dpAll a)
theorem Kd.dpAll {K : PySem.W.Frag} {H H' : Hp} (k : Kd H H') : ∀ {ds : List PyData} {vs : List V}, DpAll K H vs ds → DpAll K H' vs ds
  | _, _, .nil => .nil
  | _, _, .cons h t => .cons (k.dp h) (k.dpAll t)
end
/-! ### tables of code objects -/
def Tb (T : List Addr) (H : Hp) : Prop := ∀ p ∈ T, GxR.TabG H p
/-- the tables may have grown, all else is as it was -/
def Grw (T : List Addr) (H H' : Hp) : Prop := Tb T H' ∧ ∀ b, b ∉ T → H' b = H b
theorem Grw.refl {T : List Addr} {H : Hp} (t : Tb T H) : Grw T H H := ⟨t, fun _ _ => rfl⟩
theorem Grw.trans {T : List Addr} {H H1 H2 : Hp} (a : Grw T H H1) (b : Grw T H1 H2) : Grw T H H2 := ⟨b.1, fun c h => (b.2 c h).trans (a.2 c h)⟩
theorem Grw.one {T : List Addr} {P : Addr} {H H' : Hp} (t : Tb T H) (hP : P ∈ T) (g : GxR.Tabbed P H H') : Grw T H H' := by
  refine ⟨fun p hp => ?_, fun b hb => g.2 b fun e => hb (e ▸ hP)⟩
  by_cases e : p = P
  · subst e; exact g.1
  · obtain ⟨ps, h1, h2⟩ := t p hp
    exact ⟨ps, (g.2 p e).trans h1, h2⟩
theorem Grw.kd {T : List Addr} {H H' : Hp} (t : Tb T H) (g : Grw T H H') : Kd H H' := fun b o e k => by
  have nb : b ∉ T := fun hb => by
    obtain ⟨ps, h1, _⟩ := t b hb
    rw [h1] at e
    cases e
    rcases k with ⟨xs, k⟩ | ⟨xs, k⟩ | ⟨ob, y, k⟩ <;> cases k
  rw [g.2 b nb]
  exact e
theorem Grw.none {T : List Addr} {H H' : Hp} (g : Grw T H H') {b : Addr} (h : H' b = none) : H b = none := by
  by_cases hb : b ∈ T
  · obtain ⟨ps, h1, _⟩ := g.1 b hb
    rw [h1] at h
    cases h
  · rw [← g.2 b hb]; exact h
theorem Tb.new {T : List Addr} {H : Hp} {p : Addr} {o : HO} (t : Tb T H) (n : H p = none) : Tb T (upd H p o) := fun q hq => by
  obtain ⟨ps, h1, h2⟩ := t q hq
  exact ⟨ps, by rw [upd_ne (ne_of_none h1 n)]; exact h1, h2⟩
theorem Tb.over {T : List Addr} {H : Hp} {p : Addr} {o u : HO} (t : Tb T H) (e : H p = some u) (hu : ∀ ps, u ≠ .tbl ps) : Tb T (upd H p o) := fun q hq => by
  obtain ⟨ps, h1, h2⟩ := t q hq
  have nq : q ≠ p := fun z => by
    rw [z, e] at h1
    exact hu ps (Option.some.inj h1)
  exact ⟨ps, by rw [upd_ne nq]; exact h1, h2⟩
/-! ### what kind a thing is -/
def tyN : PyData → String
  | .none => "NoneType"
  | .bool _ => "bool"
  | .int _ => "int"
  | .str _ => "str"
  | .list _ => "list"
  | .tuple _ => "tuple"
  | .dict _ => "dict"
theorem tyX {K : PySem.W.Frag} {H : Hp} {x : V} {d : PyData} (h : Dp K H x d) : TyX K H x (.type (tyN d)) := by
  cases h with
  | non => exact .base .non
  | bl b => exact .base (.bl b)
  | int i => exact .base (.int i)
  | str z => exact .base (.str z)
  | lst h1 _ =>
    rcases h1 with (h1 | ⟨o, h1⟩) | ⟨o, its, n, h1, h2, _⟩
    · exact .base (.lst h1)
    · exact .base (.frz h1)
    · exact .kList h1 h2
  | tup h1 _ =>
    rcases h1 with (h1 | ⟨o, h1⟩) | ⟨o, its, n, h1, h2, _⟩
    · exact .base (.tup h1)
    · exact .fTuple h1
    · exact .kTuple h1 h2
def isI : PyData → Bool | .int _ => true | .bool _ => true | _ => false
def isB : PyData → Bool | .bool _ => true | _ => false
def isS : PyData → Bool | .str _ => true | _ => false
def isT : PyData → Bool | .tuple _ => true | _ => false
theorem kitI : ∀ d : PyData, kitB (tyN d) "int" = some (isI d)
  | .none => (by decide +kernel : kitB "NoneType" "int" = some false)
  | .bool _ => (by decide +kernel : kitB "bool" "int" = some true)
  | .int _ => (by decide +kernel : kitB "int" "int" = some true)
  | .str _ => (by decide +kernel : kitB "str" "int" = some false)
  | .list _ => (by decide +kernel : kitB "list" "int" = some false)
  | .tuple _ => (by decide +kernel : kitB "tuple" "int" = some false)
  | .dict _ => (by decide +kernel : kitB "dict" "int" = some false)
theorem kitBo : ∀ d : PyData, kitB (tyN d) "bool" = some (isB d)
  | .none => (by decide +kernel : kitB "NoneType" "bool" = some false)
  | .bool _ => (by decide +kernel : kitB "bool" "bool" = some true)
  | .int _ => (by decide +kernel : kitB "int" "bool" = some false)
  | .str _ => (by decide +kernel : kitB "str" "bool" = some false)
  | .list _ => (by decide +kernel : kitB "list" "bool" = some false)
  | .tuple _ => (by decide +kernel : kitB "tuple" "bool" = some false)
  | .dict _ => (by decide +kernel : kitB "dict" "bool" = some false)
theorem kitS : ∀ d : PyData, kitB (tyN d) "str" = some (isS d)
  | .none => (by decide +kernel : kitB "NoneType" "str" = some false)
  | .bool _ => (by decide +kernel : kitB "bool" "str" = some false)
  | .int _ => (by decide +kernel : kitB "int" "str" = some false)
  | .str _ => (by decide +kernel : kitB "str" "str" = some true)
  | .list _ => (by decide +kernel : kitB "list" "str" = some false)
  | .tuple _ => (by decide +kernel : kitB "tuple" "str" = some false)
  | .dict _ => (by decide +kernel : kitB "dict" "str" = some false)
theorem kitT : ∀ d : PyData, kitB (tyN d) "tuple" = some (isT d)
  | .none => (by decide +kernel : kitB "NoneType" "tuple" = some false)
  | .bool _ => (by decide +kernel : kitB "bool" "tuple" = some false)
  | .int _ => (by decide +kernel : kitB "int" "tuple" = some false)
  | .str _ => (by decide +kernel : kitB "str" "tuple" = some false)
  | .list _ => (by decide +kernel : kitB "list" "tuple" = some false)
  | .tuple _ => (by decide +kernel : kitB "tuple" "tuple" = some true)
  | .dict _ => (by decide +kernel : kitB "dict" "tuple" = some false)
/-- isinstance(x, T) -/
theorem isi_ok {K : PySem.W.Frag} {H : Hp} {x : V} {d : PyData} {n : String} {b : Bool} {Q : VK} (h : Dp K H x d) (k : kitB (tyN d) n = some b) (q : Q (.bl b) H) : rIsi K [x, .ty n] H Q :=
  ⟨x, .ty n, _, _, b, rfl, .ty n, tyX h, kit_ty k, q⟩
end Mw

namespace Mw
open PySem PySem.Spec PyProof.Rows L2
/-! ### all over a text's signs -/
theorem wipe_set (σ : L2.St) (i : Nat) (v : Option V) : wipe ((wipe σ [i]).set i v) [i] = wipe σ [i] := by
  show ((σ.set i none).set i v).set i none = σ.set i none
  rw [List.set_set, List.set_set]
theorem take_all_succ {l : List Nat} {j c : Nat} {pb : Nat → Bool} (h : l[j]? = some c) (a : (l.take j).all pb = true) (b : pb c = true) : (l.take (j + 1)).all pb = true := by
  rw [List.take_add_one, h, List.all_append, a]
  simpa using b
theorem all_text {x : Str} {i : Nat} {te : TE} {σ : L2.St} {H : Hp} {Q : VK} (Pv : Hp → Prop) (pb : Nat → Bool) (h0 : Pv H)
    (step : ∀ c H (R : VK), c ∈ x.cps.toList → Pv H → (∀ H', Pv H' → R (.bl (pb c)) H') → te ((wipe σ [i]).set i (some (.str ⟨#[c]⟩))) H R) (hq : ∀ H, Pv H → Q (.bl (x.cps.toList.all pb)) H) :
    ∃ W : Nat → Nat → Unit → Hp → Prop, (∃ m, W 0 m () H) ∧ turns (Its x) (gName i) tYes te [i] (stpA true) (fun _ y H => y = .bl false ∧ Q (.bl false) H) (fun _ H => Q (.bl true) H) σ W := by
  have sz : x.cps.size = x.cps.toList.length := by simp
  refine ⟨fun j m _ H => j + m = x.cps.size ∧ Pv H ∧ (x.cps.toList.take j).all pb = true, ⟨x.cps.size, by omega, h0, by simp⟩, fun j m a H w => ?_⟩
  obtain ⟨e, pv, al⟩ := w
  by_cases hj : j < x.cps.size
  · refine .inr ⟨hj, fun _ H' => Pv H' ∧ (x.cps.toList.take (j + 1)).all pb = true, fun a' H' n => ⟨m - 1, by omega, by omega, n.1, n.2⟩, fun v H' y => ?_⟩
    obtain ⟨rfl, c, hc, rfl⟩ := y
    have hl : x.cps.toList[j]? = some c := by rw [Array.getElem?_toList]; exact hc
    refine ⟨wipe_set σ i _, ?_⟩
    simp only [tYes, if_true]
    have hm : c ∈ x.cps.toList := List.mem_of_getElem? hl
    refine step c H' _ hm pv fun H2 pv2 => ?_
    cases hb : pb c with
    | true => exact .inr ⟨(), if_pos rfl, pv2, take_all_succ hl al hb⟩
    | false =>
      refine .inl ⟨if_neg (by simp), rfl, ?_⟩
      have := hq H2 pv2
      have fa : x.cps.toList.all pb = false := by
        rw [List.all_eq_false]
        exact ⟨c, hm, by simp [hb]⟩
      rw [fa] at this
      exact this
  · refine .inl ⟨show x.cps.size ≤ j by omega, ?_⟩
    have := hq H pv
    rw [List.take_of_length_le (by omega)] at al
    rw [al] at this
    exact this
end Mw

namespace Mw
open PySem PySem.Spec PyProof.Rows L2
/-! ### the feed of a law: a dict with a list of cells and three numbers -/
abbrev kC : Key := Sum.inr "cells"
abbrev kA : Key := Sum.inr "at"
abbrev kL : Key := Sum.inr "left"
abbrev kN : Key := Sum.inr "count"
structure FeedK (kvs : List (Key × V)) (C : Addr) : Prop where
  cells : valV kvs kC = some (.ref C)
  at_ : ∃ n : Int, valV kvs kA = some (.int n) ∧ 0 ≤ n
  left : ∃ n : Int, valV kvs kL = some (.int n)
  count : ∃ n : Int, valV kvs kN = some (.int n)
  len : kvs.length ≤ 100
theorem putK_len {kvs : List (Key × V)} {k : Key} {v x : V} (h : valV kvs k = some x) : (putK kvs k v).length = kvs.length := by
  unfold putK
  rw [valV_any, h]
  simp
theorem kCA : ¬ kC = kA := by decide +kernel
theorem kCL : ¬ kC = kL := by decide +kernel
theorem kCN : ¬ kC = kN := by decide +kernel
theorem kAL : ¬ kA = kL := by decide +kernel
theorem kAN : ¬ kA = kN := by decide +kernel
theorem kLN : ¬ kL = kN := by decide +kernel
theorem FeedK.putN {kvs : List (Key × V)} {C : Addr} {n : Int} (f : FeedK kvs C) : FeedK (putK kvs kN (.int n)) C := by
  obtain ⟨c, hc⟩ := f.count
  refine ⟨by rw [valV_put, if_neg kCN]; exact f.cells, by rw [valV_put, if_neg kAN]; exact f.at_, by rw [valV_put, if_neg kLN]; exact f.left, ⟨n, by rw [valV_put, if_pos rfl]⟩, by rw [putK_len hc]; exact f.len⟩
theorem FeedK.putL {kvs : List (Key × V)} {C : Addr} {n : Int} (f : FeedK kvs C) : FeedK (putK kvs kL (.int n)) C := by
  obtain ⟨c, hc⟩ := f.left
  refine ⟨by rw [valV_put, if_neg kCL]; exact f.cells, by rw [valV_put, if_neg kAL]; exact f.at_, ⟨n, by rw [valV_put, if_pos rfl]⟩, by rw [valV_put, if_neg (fun e => kLN e.symm)]; exact f.count, by rw [putK_len hc]; exact f.len⟩
theorem FeedK.putA {kvs : List (Key × V)} {C : Addr} {n : Int} (f : FeedK kvs C) (hn : 0 ≤ n) : FeedK (putK kvs kA (.int n)) C := by
  obtain ⟨c, hc, _⟩ := f.at_
  refine ⟨by rw [valV_put, if_neg kCA]; exact f.cells, ⟨n, by rw [valV_put, if_pos rfl], hn⟩, by rw [valV_put, if_neg (fun e => kAL e.symm)]; exact f.left, by rw [valV_put, if_neg (fun e => kAN e.symm)]; exact f.count, by rw [putK_len hc]; exact f.len⟩
structure Fd (F C : Addr) (ns : List Int) (H : Hp) : Prop where
  ex : ∃ kvs, H F = some (.dK kvs) ∧ FeedK kvs C
  cl : H C = some (.lst (ns.map V.int))
/-- all but F is as it was (there may be more) -/
def Ev (F : Addr) (H H' : Hp) : Prop := ∀ b o, H b = some o → b ≠ F → H' b = some o
theorem Ev.refl (F : Addr) (H : Hp) : Ev F H H := fun _ _ e _ => e
theorem Ev.trans {F : Addr} {H H1 H2 : Hp} (a : Ev F H H1) (b : Ev F H1 H2) : Ev F H H2 := fun c o e n => b c o (a c o e n) n
theorem Ev.new {F p : Addr} {H : Hp} {o : HO} (n : H p = none) : Ev F H (upd H p o) := fun b u e _ => by rw [upd_ne (ne_of_none e n)]; exact e
theorem Ev.own {F : Addr} {H : Hp} {o : HO} : Ev F H (upd H F o) := fun b u e n => by rw [upd_ne n]; exact e
theorem Ev.put {F p q : Addr} {H H' : Hp} {o : HO} (a : Ev F H H') (n : H p = none) : Ev F H (upd H' p o) := fun b u e nb => by rw [upd_ne (ne_of_none e n)]; exact a b u e nb
theorem Ev.kd {F C : Addr} {ns : List Int} {H H' : Hp} (f : Fd F C ns H) (e : Ev F H H') : Kd H H' := fun b o h k => by
  refine e b o h fun z => ?_
  obtain ⟨kvs, hF, _⟩ := f.ex
  rw [z, hF] at h
  cases h
  rcases k with ⟨xs, k⟩ | ⟨xs, k⟩ | ⟨ob, y, k⟩ <;> cases k
theorem Ev.tb {F C : Addr} {ns : List Int} {T : List Addr} {H H' : Hp} (f : Fd F C ns H) (e : Ev F H H') (t : Tb T H) : Tb T H' := fun p hp => by
  obtain ⟨ps, h1, h2⟩ := t p hp
  refine ⟨ps, e p _ h1 fun z => ?_, h2⟩
  obtain ⟨kvs, hF, _⟩ := f.ex
  rw [z, hF] at h1
  cases h1
theorem Ev.free {F C : Addr} {ns : List Int} {H H' : Hp} (f' : Fd F C ns H') (e : Ev F H H') {p : Addr} (n : H' p = none) : H p = none := by
  cases h : H p with
  | none => rfl
  | some o =>
    obtain ⟨kvs, hF, _⟩ := f'.ex
    have np : p ≠ F := fun z => by
      rw [z, hF] at n
      cases n
    rw [e p o h np] at n
    cases n
theorem Fd.new {F C p : Addr} {ns : List Int} {H : Hp} {o : HO} (f : Fd F C ns H) (n : H p = none) : Fd F C ns (upd H p o) := by
  obtain ⟨kvs, hF, k⟩ := f.ex
  exact ⟨⟨kvs, by rw [upd_ne (ne_of_none hF n)]; exact hF, k⟩, by rw [upd_ne (ne_of_none f.cl n)]; exact f.cl⟩
theorem Fd.over {F C p : Addr} {ns : List Int} {H : Hp} {o u : HO} (f : Fd F C ns H) (e : H p = some u) (n1 : p ≠ F) (n2 : p ≠ C) : Fd F C ns (upd H p o) := by
  obtain ⟨kvs, hF, k⟩ := f.ex
  exact ⟨⟨kvs, by rw [upd_ne (Ne.symm n1)]; exact hF, k⟩, by rw [upd_ne (Ne.symm n2)]; exact f.cl⟩
theorem Fd.ne {F C : Addr} {ns : List Int} {H : Hp} (f : Fd F C ns H) : C ≠ F := by
  obtain ⟨kvs, hF, _⟩ := f.ex
  exact ne_of f.cl hF (by intro z; cases z)
theorem Fd.put {F C : Addr} {ns : List Int} {H : Hp} {kvs : List (Key × V)} (f : Fd F C ns H) (k : FeedK kvs C) : Fd F C ns (upd H F (.dK kvs)) :=
  ⟨⟨kvs, upd_same, k⟩, by rw [upd_ne f.ne]; exact f.cl⟩
theorem Fd.grw {F C : Addr} {ns : List Int} {T : List Addr} {H H' : Hp} (f : Fd F C ns H) (t : Tb T H) (g : Grw T H H') : Fd F C ns H' := by
  obtain ⟨kvs, hF, k⟩ := f.ex
  have n1 : F ∉ T := fun h => by
    obtain ⟨ps, h1, _⟩ := t F h
    rw [hF] at h1
    cases h1
  have n2 : C ∉ T := fun h => by
    obtain ⟨ps, h1, _⟩ := t C h
    rw [f.cl] at h1
    cases h1
  exact ⟨⟨kvs, by rw [g.2 F n1]; exact hF, k⟩, by rw [g.2 C n2]; exact f.cl⟩
theorem dpInts {K : PySem.W.Frag} {H : Hp} : ∀ ns : List Int, DpAll K H (ns.map V.int) (ns.map PyData.int)
  | [] => .nil
  | n :: r => .cons (.int n) (dpInts r)
theorem shInts : ∀ ns : List Int, PyData.canLayAll0 (ns.map PyData.int) = true
  | [] => by simp [PyData.canLayAll0]
  | n :: r => by simp [PyData.canLayAll0, PyData.canLay0, shInts r]
theorem dpthInts : ∀ ns : List Int, PyData.depthAll (ns.map PyData.int) ≤ 1
  | [] => by simp [PyData.depthAll]
  | n :: r => by
    have h := dpthInts r
    simp [PyData.depthAll, PyData.depth]
    omega
theorem shapedInts (ns : List Int) : SeqAt.shaped (.list (ns.map PyData.int)) = true := by
  show (PyData.canLay0 (.list (ns.map PyData.int)) && decide (PyData.depth (.list (ns.map PyData.int)) ≤ 64)) = true
  rw [Bool.and_eq_true]
  refine ⟨by simp only [PyData.canLay0]; exact shInts ns, decide_eq_true ?_⟩
  have h := dpthInts ns
  simp only [PyData.depth]
  omega
theorem eqvNil (ns : List Int) : PyData.eqv (.list (ns.map PyData.int)) (.list []) = decide (ns = []) := by
  cases ns with
  | nil => simp [PyData.eqv, PyData.eqvAll]
  | cons n r => simp [PyData.eqv, PyData.eqvAll]
/-- a draw -/
def spDraw : Sp := fun vs H Q _ => ∃ (F C : Addr) (ns : List Int) (m : Int), vs = [.ref F, .int m] ∧ 0 < m ∧ m < 1073741824 ∧ ns.length ≤ 63 ∧ Fd F C ns H ∧
  ∀ (r : Int) (H' : Hp), 0 ≤ r → r < m → Fd F C ns H' → Ev F H H' → Q (.int r) H'
def spFeed (K : PySem.W.Frag) : Sp := fun vs H Q _ => ∃ (a : Addr) (ns : List Int), vs = [.ref a] ∧ SqL K H a (ns.map V.int) ∧ ns.length ≤ 63 ∧
  ∀ (F C : Addr) (H' : Hp), H F = none → Fd F C ns H' → Same H H' → Q (.ref F) H'
end Mw

namespace Mw
open PySem PySem.Spec PyProof.Rows L2
/-! ### short texts of plain signs -/
def Asc (n : Nat) (z : Str) : Prop := z.length ≤ n ∧ ∀ c ∈ z.cps.toList, c < 128
theorem Asc.mono {n m : Nat} {z : Str} (a : Asc n z) (h : n ≤ m) : Asc m z := ⟨Nat.le_trans a.1 h, a.2⟩
theorem Asc.len {n : Nat} {z : Str} (a : Asc n z) : z.cps.toList.length ≤ n := by
  have h : z.cps.toList.length = z.length := by simp [Str.length]
  rw [h]; exact a.1
theorem Asc.line {n : Nat} {z : Str} (a : Asc n z) (h : n ≤ 1000000) : z.length ≤ sizeLine := Nat.le_trans a.1 (Nat.le_trans h (by decide))
theorem asc_mk {n : Nat} {l : List Nat} (h : l.length ≤ n) (c : ∀ x ∈ l, x < 128) : Asc n ⟨l.toArray⟩ := ⟨by simpa [Str.length] using h, by simpa using c⟩
theorem asc_one {c : Nat} (h : c < 128) : Asc 1 ⟨#[c]⟩ := ⟨Nat.le_refl _, fun x hx => by
  have : x = c := by simpa using hx
  omega⟩
theorem cl_append (x y : Str) : (x ++ y).cps.toList = x.cps.toList ++ y.cps.toList := TL.tl_append x y
theorem len_append (x y : Str) : (x ++ y).length = x.length + y.length := strLen_append x y
theorem Asc.app {n m : Nat} {x y : Str} (a : Asc n x) (b : Asc m y) : Asc (n + m) (x ++ y) := by
  refine ⟨by rw [len_append]; exact Nat.add_le_add a.1 b.1, fun c hc => ?_⟩
  rw [cl_append] at hc
  rcases List.mem_append.mp hc with h | h
  · exact a.2 c h
  · exact b.2 c h
theorem Asc.cut {n : Nat} {z : Str} (a : Asc n z) (lo hi : Option Int) : Asc n (cutS z lo hi) := by
  refine asc_mk ?_ fun x hx => ?_
  · rw [List.length_take, List.length_drop]
    have := a.len
    omega
  · exact a.2 x (List.mem_of_mem_drop (List.mem_of_mem_take hx))
theorem asc_join : ∀ {ys : List Str} {k : Nat}, (∀ y ∈ ys, Asc k y) → Asc (ys.length * k) (Str.join Str.empty ys)
  | [], k, _ => ⟨Nat.zero_le _, fun c hc => by
      have : c ∈ ([] : List Nat) := hc
      cases this⟩
  | [y], k, h => by
    show Asc (1 * k) y
    rw [Nat.one_mul]
    exact h y (by simp)
  | x :: z :: r, k, h => by
    show Asc ((z :: r).length.succ * k) (x ++ Str.empty ++ Str.join Str.empty (z :: r))
    have h1 := h x (by simp)
    have h2 := asc_join (ys := z :: r) (k := k) fun y hy => h y (List.mem_cons_of_mem _ hy)
    have h3 : Asc 0 Str.empty := ⟨Nat.le_refl _, fun c hc => by
      have : c ∈ ([] : List Nat) := hc
      cases this⟩
    exact ((h1.app h3).app h2).mono (by rw [Nat.succ_mul]; omega)
theorem asc_of {s : String} {n : Nat} (h : ((Str.ofString s).length ≤ n && (Str.ofString s).cps.toList.all fun c => decide (c < 128)) = true) : Asc n (Str.ofString s) := by
  rw [Bool.and_eq_true] at h
  exact ⟨of_decide_eq_true h.1, fun c hc => of_decide_eq_true (List.all_eq_true.mp h.2 c hc)⟩
/-- a sign of a text at an open place -/
theorem sign_at {n : Nat} {z : Str} (a : Asc n z) {r : Int} (h0 : 0 ≤ r) (h1 : r < (z.length : Int)) : ∃ c, atI z.cps.toList r = some c ∧ c < 128 := by
  obtain ⟨j, rfl⟩ : ∃ j : Nat, r = (j : Int) := ⟨r.toNat, (Int.toNat_of_nonneg h0).symm⟩
  have hl : z.cps.toList.length = z.length := by simp [Str.length]
  have hj : j < z.cps.toList.length := by omega
  exact ⟨z.cps.toList[j], atI_nat (List.getElem?_eq_getElem hj), a.2 _ (List.getElem_mem hj)⟩
/-- an item of a list at an open place -/
theorem val_at {xs : List V} {r : Int} (h0 : 0 ≤ r) (h1 : r < (xs.length : Int)) : ∃ v, atI xs r = some v ∧ v ∈ xs ∧ xs[r.toNat]? = some v := by
  obtain ⟨j, rfl⟩ : ∃ j : Nat, r = (j : Int) := ⟨r.toNat, (Int.toNat_of_nonneg h0).symm⟩
  have hj : j < xs.length := by omega
  exact ⟨xs[j], atI_nat (List.getElem?_eq_getElem hj), List.getElem_mem hj, by simp [List.getElem?_eq_getElem hj]⟩
end Mw

namespace Mw
open PySem PySem.Spec PyProof.Rows L2
/-! ### t[::-1], t a tuple -/
theorem places_rev (n : Nat) : Builtin.Slice.slicePlaces ((n : Int) - 1) (-1) (-1) = n := by
  unfold Builtin.Slice.slicePlaces
  rw [if_neg (by decide)]
  by_cases h : (n : Int) - 1 > -1
  · rw [if_pos h, show (-(-1 : Int)) = 1 by decide, Int.ediv_one]
    omega
  · rw [if_neg h]
    omega
theorem fm_congr {α β : Type} {f g : α → Option β} : ∀ {l : List α}, (∀ a ∈ l, f a = g a) → l.filterMap f = l.filterMap g
  | [], _ => rfl
  | a :: l, h => by
    rw [List.filterMap_cons, List.filterMap_cons, h a (by simp), fm_congr fun b hb => h b (List.mem_cons_of_mem _ hb)]
theorem pick_rev (xs : Array Value) : ((List.range xs.size).filterMap fun (k : Nat) => xs[((xs.size : Int) - 1 + (k : Int) * (-1)).toNat]?).toArray = xs.toList.reverse.toArray := by
  have e : (List.range xs.size).filterMap (fun (k : Nat) => xs[((xs.size : Int) - 1 + (k : Int) * (-1)).toNat]?) = ((List.range xs.size).map fun k => xs.size - 1 - k).filterMap (xs[·]?) := by
    rw [List.filterMap_map]
    refine fm_congr fun k hk => ?_
    have := List.mem_range.mp hk
    have q : ((xs.size : Int) - 1 + (k : Int) * (-1)).toNat = xs.size - 1 - k := by omega
    rw [q]
    rfl
  rw [e, PySem.W.krv_range, List.filterMap_reverse, PySem.W.krv_all]
section
variable {prog : Program} {w : World} {A : Around} {E : Value → Shared → Prop} {s : Shared}
theorem applied_rev {sl : Addr} {n : Nat} {tk : Tok} {Q : Int × Int × Nat → Shared → Prop} (hs : s.heap.IsSliceOf sl .none .none (.int (-1) tk)) (h : Q ((n : Int) - 1, -1, n) s) :
    wpAny (model prog w) A (Builtin.Slice.sliceApplied (.ref sl) (pure (n : Int))) Q E s := by
  obtain ⟨os, hos, hcs, hds⟩ := id hs
  unfold Builtin.Slice.sliceApplied Builtin.Slice.sliceFields
  refine wpAny_bind (wpAny_bind (wpAny_field hos hds (x := .none) rfl (wpAny_bind (wpAny_field hos hds (x := .none) rfl (wpAny_bind (wpAny_field hos hds (x := .int (-1) tk) rfl (wpAny_pure ?_)))))))
  refine wpAny_bind (slicePart_int ?_)
  show wpAny _ _ (if ((-1 : Int) == 0) = true then _ else _) _ _ s
  rw [if_neg (by decide)]
  refine wpAny_bind (slicePart_none (wpAny_bind (slicePart_none (wpAny_bind (wpAny_pure ?_)))))
  show wpAny _ _ (pure ((n : Int) - 1, (-1 : Int), Builtin.Slice.slicePlaces ((n : Int) - 1) (-1) (-1))) _ _ s
  rw [places_rev]
  exact wpAny_pure h
theorem getItem_rev {t sl : Addr} {items : Array Value} {tk : Tok} {Q : Value → Shared → Prop} (ht : IsTup s.heap t items) (hs : s.heap.IsSliceOf sl .none .none (.int (-1) tk))
    (h : Q (.ref s.heap.objs.size) { s with heap := s.heap.push { cls := .type "tuple", data := .seq items.toList.reverse.toArray } }) (hz : items.size ≤ sizeLine) :
    wpAny (model prog w) A (getItem (.ref t) (.ref sl)) Q E s := by
  have hok : sizeOk (.seq items.toList.reverse.toArray) := by
    show items.toList.reverse.toArray.size ≤ sizeLine
    rw [List.size_toArray, List.length_reverse, Array.length_toList]
    exact hz
  obtain ⟨os, hos, hcs, hds⟩ := id hs
  unfold getItem
  try with_reducible refine wpAny_holding ?_
  first | refine wpAny_bind (wpAny_pure ?_) | skip
  refine wpAny_bind (wpAny_sequenceKey ht.typeIs (by decide) ?_)
  refine wpAny_bind (wpAny_callSpecial?_slot (name := Str.ofString "__getitem__") ht.typeIs PyProof.Rows.slot_tuple_getitem (wpAny_call_entry PyProof.Rows.slot_tuple_getitem ht.typeIs entry_tuple_getitem ?_ (args_tuple_getitem _ _)))
  show wpAny _ _ (Builtin.Tuple.tupleItemsOf (.ref t) >>= _) _ _ s
  refine wpAny_bind (tupleItemsOf_ ht ?_)
  refine wpAny_bind (wpAny_typeOf (show s.TypeIs (.ref sl) "slice" from ⟨os, hos, hcs⟩) ?_)
  rw [if_pos (by decide)]
  refine wpAny_bind (applied_rev hs ?_)
  show wpAny _ _ (if (((items.size : Int) - 1) == 0 && (-1 : Int) == 1 && items.size == items.size) = true then _ else _) _ _ s
  rw [if_neg (by
    intro q
    rw [Bool.and_eq_true, Bool.and_eq_true] at q
    exact absurd q.1.2 (by decide)), pick_rev]
  first
    | exact wpAny_bind (m := Builtin.Tuple.tupleExact _) (wpAny_newObj_type (wpAny_pure ⟨_, rfl, wpAny_pure h⟩) hok)
    | exact wpAny_bind (m := Builtin.Tuple.tupleExact _) (wpAny_newObj_type (wpAny_bind (wpAny_pure (wpAny_pure ⟨_, rfl, wpAny_pure h⟩))) hok)
    | exact wpAny_bind (wpAny_bind (m := Builtin.Tuple.tupleExact _) (wpAny_newObj_type (wpAny_pure (wpAny_pure ⟨_, rfl, wpAny_pure h⟩)) hok))
    | exact wpAny_bind (wpAny_bind (m := Builtin.Tuple.tupleExact _) (wpAny_newObj_type (wpAny_pure ⟨_, rfl, wpAny_pure h⟩) hok))
end
section
variable {X : Cx}
def tRevT (K : PySem.W.Frag) (te : TE) : TE := fun σ H Q => te σ H fun x H1 => ∃ a xs, x = .ref a ∧ SqT K H1 a xs ∧ ∀ p, H1 p = none → Q (.ref p) (upd H1 p (.tup xs.reverse))
theorem pe_revT {e : Expr} {te : TE} {k : Nat} {p1 p2 p3 pos : Pos} (he : PE X e te) : PE X (.Subscript e (.Slice none none (some (.UnaryOp .USub (.Constant (.int 1) k p1) p2)) p3) pos) (tRevT X.K te) := by
  refine ⟨fun pins s σ H Q I h => ?_⟩
  refine Subscript_ (thn (he.run pins s σ H _ I h) fun v s1 h1 => ?_)
  obtain ⟨x, H1, I1, r1, a, xs, rfl, hx, q⟩ := h1
  cases r1
  have st : PO X (some (.UnaryOp .USub (.Constant (.int 1) k p1) p2)) (tPart (tUn (rU fun i => .int (-i)) (tC (.int 1)))) := po_some (pe_un un_neg pe_int)
  refine wpAny_Slice (thn (po_none.run pins s1 σ H1 (fun o H2 => o = none ∧ H2 = H1) I1 ⟨rfl, rfl⟩) fun vl s2 h2 => ?_)
  obtain ⟨l, H2, I2, pl, rfl, rfl⟩ := h2
  refine thn (po_none.run pins s2 σ H2 (fun o H3 => o = none ∧ H3 = H2) I2 ⟨rfl, rfl⟩) fun vu s3 h3 => ?_
  obtain ⟨u, H3, I3, pu, rfl, rfl⟩ := h3
  refine thn (st.run pins s3 σ H3 (fun o H4 => o = some (-1) ∧ H4 = H3) I3 ⟨1, rfl, -1, rfl, rfl, rfl⟩) fun vs s4 h4 => ?_
  obtain ⟨o, H4, I4, ps, rfl, rfl⟩ := h4
  cases pl
  cases pu
  cases ps
  rename_i tk
  have I5 : Inv X pins σ H4 { s4 with heap := s4.heap.push { cls := .type "slice", data := .fields #[.none, .none, .int (-1) tk] } } := I4.kept (t' := s4.toks) fun b ob z => Heap.get?_push_of_some _ z
  obtain ⟨its, r, ht, hz⟩ := I5.tuple hx
  have hlen := r.length
  show wpAny (model X.prog X.w) X.A (subscriptTail e (.Slice none none (some (.UnaryOp .USub (.Constant (.int 1) k p1) p2)) p3) (.ref a) (.ref s4.heap.objs.size)) (EP X pins σ Q) X.xe { s4 with heap := s4.heap.push { cls := .type "slice", data := .fields #[.none, .none, .int (-1) tk] } }
  refine tail_any (ops := [.ref a, .ref s4.heap.objs.size]) ht.typeIs PyProof.Rows.slot_tuple_getitem.lookup ?_ (by with_unfolding_all rfl)
  refine getItem_rev ht (Heap.IsSliceOf.new _ _ _ _) ?_ (by rw [List.size_toArray]; omega)
  refine ⟨.ref _, _, I5.laid (t' := s4.toks) (o := .tup xs.reverse) (fun b ob z => Heap.get?_push_of_some _ z) (Nat.le_refl _) ?_, rfl, q _ (I5.hok.fresh (Nat.le_refl _))⟩
  exact ⟨by rw [List.length_reverse]; exact hz, _, r.reverse, IsTup.new _ _⟩
end
/-! ### data that can be shown -/
mutual
def wt : PyData → Nat
  | .none => 5
  | .bool _ => 5
  | .int _ => 1921
  | .str x => 10 * x.length + 2
  | .list xs => wtAll xs + 3
  | .tuple xs => wtAll xs + 3
  | .dict _ => 0
def wtAll : List PyData → Nat
  | [] => 0
  | x :: xs => wt x + 2 + wtAll xs
end
mutual
def fine : PyData → Bool
  | .none => true
  | .bool _ => true
  | .int i => decide (i.natAbs.log2 < 1920)
  | .str x => x.cps.toList.all fun c => decide (c < 128)
  | .list xs => fineAll xs
  | .tuple xs => fineAll xs
  | .dict _ => false
def fineAll : List PyData → Bool
  | [] => true
  | x :: xs => fine x && fineAll xs
end
theorem strOk_of {x : Str} (h : (x.cps.toList.all fun c => decide (c < 128)) = true) : PyData.strOk x = true := by
  unfold PyData.strOk
  rw [Array.all_toList.symm, List.all_eq_true]
  intro c hc
  have := of_decide_eq_true (List.all_eq_true.mp h c hc)
  exact decide_eq_true (by omega)
mutual
theorem fine_show : ∀ {d : PyData}, fine d = true → d.showable = true ∧ d.canLay0 = true ∧ d.shown.length ≤ wt d
  | .none, _ => ⟨rfl, rfl, by simp only [PyData.shown, wt]; decide +kernel⟩
  | .bool true, _ => ⟨rfl, rfl, by simp only [PyData.shown, wt]; decide +kernel⟩
  | .bool false, _ => ⟨rfl, rfl, by simp only [PyData.shown, wt]; decide +kernel⟩
  | .int i, h => by
    have h' : i.natAbs.log2 < 1920 := by simpa [fine] using h
    exact ⟨by simpa [PyData.showable] using h', rfl, by simp only [PyData.shown, wt]; exact int_text_len_1921 h'⟩
  | .str x, h => by
    have h' : (x.cps.toList.all fun c => decide (c < 128)) = true := by simpa [fine] using h
    refine ⟨rfl, by simp only [PyData.canLay0]; exact strOk_of h', ?_⟩
    simp only [PyData.shown, wt]
    refine StrLaws.reprText_len x fun c hc => ?_
    have := of_decide_eq_true (List.all_eq_true.mp h' c hc)
    omega
  | .list xs, h => by
    have h' : fineAll xs = true := by simpa [fine] using h
    obtain ⟨a, b, c, e⟩ := fine_showAll h'
    refine ⟨by simp only [PyData.showable]; exact a, by simp only [PyData.canLay0]; exact b, ?_⟩
    simp only [PyData.shown, wt]
    have := listText_len_le (PyData.shownAll xs)
    omega
  | .tuple xs, h => by
    have h' : fineAll xs = true := by simpa [fine] using h
    obtain ⟨a, b, c, e⟩ := fine_showAll h'
    refine ⟨by simp only [PyData.showable]; exact a, by simp only [PyData.canLay0]; exact b, ?_⟩
    simp only [PyData.shown, wt]
    have := tupleText_len_le (PyData.shownAll xs)
    omega
  | .dict _, h => by simp [fine] at h
theorem fine_showAll : ∀ {xs : List PyData}, fineAll xs = true → PyData.showableAll xs = true ∧ PyData.canLayAll0 xs = true ∧ ((PyData.shownAll xs).map (·.length)).sum + 2 * (PyData.shownAll xs).length ≤ wtAll xs ∧ (PyData.shownAll xs).length = xs.length
  | [], _ => ⟨rfl, rfl, by simp [PyData.shownAll, wtAll], rfl⟩
  | x :: xs, h => by
    have h' : fine x = true ∧ fineAll xs = true := by simpa [fineAll] using h
    obtain ⟨a, b, c⟩ := fine_show h'.1
    obtain ⟨a2, b2, c2, e2⟩ := fine_showAll h'.2
    refine ⟨by simp only [PyData.showableAll, a, a2, Bool.and_self], by simp only [PyData.canLayAll0, b, b2, Bool.and_self], ?_, by simp only [PyData.shownAll, List.length_cons, e2]⟩
    simp only [PyData.shownAll, wtAll, List.map_cons, List.sum_cons, List.length_cons]
    omega
end
/-- a thing that can be shown -/
structure Good (d : PyData) : Prop where
  fine : fine d = true
  wt : wt d ≤ 100000
  dp : d.depth ≤ 24
theorem Good.repr {K : PySem.W.Frag} {H : Hp} {x : V} {d : PyData} {Q : VK} (g : Good d) (h : Dp K H x d) (q : Q (.str d.shown) H) : rRepr K [x] H Q := by
  obtain ⟨a, b, c⟩ := fine_show g.fine
  exact ⟨x, d, rfl, h, a, b, Nat.le_trans g.dp (by decide), Nat.le_trans c (Nat.le_trans g.wt (by decide)), q⟩
end Mw

namespace Mw
open PySem PySem.Spec PyProof.Rows L2
/-! ### names -/
abbrev Nm := Int × Str
def nmK (n : Nm) : List Key := [.inl n.1, .inr n.2]
def nmV (n : Nm) : List V := [.int n.1, .str n.2]
def nmD (n : Nm) : PyData := .tuple [.int n.1, .str n.2]
theorem nmKV (n : Nm) : (nmK n).map kV = nmV n := rfl
theorem nmK_inj {n m : Nm} (h : nmK n = nmK m) : n = m := by
  have h1 : Sum.inl n.1 = (Sum.inl m.1 : Key) ∧ [(Sum.inr n.2 : Key)] = [Sum.inr m.2] := List.cons.inj h
  have h2 := List.cons.inj h1.2
  exact Prod.ext (Sum.inl.inj h1.1) (Sum.inr.inj h2.1)
/-- an address of a name -/
def NmA (H : Hp) (n : Nm) (b : Addr) : Prop := H b = some (.tup (nmV n))
theorem NmA.dp {K : PySem.W.Frag} {H : Hp} {n : Nm} {b : Addr} (h : NmA H n b) : Dp K H (.ref b) (nmD n) := .tup (.inl (.inl h)) (.cons (.int _) (.cons (.str _) .nil))
theorem alike_nm (a b : Nm) : PySem.W.alike (nmD a) (nmD b) = true := by simp [nmD, PySem.W.alike, PySem.W.alikeAll]
def srt (ns : List Nm) : List Nm := ns.mergeSort (PySem.W.dataLe false nmD)
theorem srt_perm (ns : List Nm) : (srt ns).Perm ns := List.mergeSort_perm ..
theorem srt_len (ns : List Nm) : (srt ns).length = ns.length := (srt_perm ns).length_eq
theorem mem_srt {ns : List Nm} {n : Nm} : n ∈ srt ns ↔ n ∈ ns := (srt_perm ns).mem_iff
abbrev Nms (H : Hp) (ns : List Nm) (bs : List Addr) : Prop := Paired (NmA H) ns bs
section
variable {X : Cx}
/-! ### sorted(d), d a dict of names -/
def rSortT : List V → Hp → VK → Prop := fun xs H Q => ∃ (d : Addr) (kvs : List (List Key × V)) (ns : List Nm), xs = [.ref d] ∧ H d = some (.dT kvs) ∧ kvs.map (·.1) = ns.map nmK ∧
  ∀ p bs, H p = none → Nms H (srt ns) bs → Q (.ref p) (upd H p (.lst (bs.map V.ref)))
theorem each_paired {H : Hp} : ∀ {out : List Value} {ns : List Nm}, PySem.W.EachIs (fun v n => ∃ b, v = Value.ref b ∧ NmA H n b) out ns → ∃ bs : List Addr, out = bs.map Value.ref ∧ Nms H ns bs
  | _, _, .nil => ⟨[], rfl, .nil⟩
  | _, _, .cons ⟨b, e, h⟩ t => by
    obtain ⟨bs, e2, h2⟩ := each_paired t
    exact ⟨b :: bs, by rw [e, e2]; rfl, .cons h h2⟩
theorem each_keys {H : Hp} : ∀ {kvs : List (List Key × V)} {ks : List (List Key × Addr × Value)} {ns : List Nm}, KT H kvs ks → kvs.map (·.1) = ns.map nmK → PySem.W.EachIs (fun v n => ∃ b, v = Value.ref b ∧ NmA H n b) (ks.map fun x => Value.ref x.2.1) ns
  | _, _, [], .nil, _ => .nil
  | _, _, n :: ns, .cons h t, e => by
    have e1 := List.cons.inj e
    refine .cons ⟨_, rfl, ?_⟩ (each_keys t e1.2)
    have h2 := h.2.1
    show H _ = some (.tup (nmV n))
    rw [← nmKV, ← e1.1]
    exact h2
  | _, _, n :: ns, .nil, e => by cases e
  | _, _, [], .cons h t, e => by cases e
/-- the keys of a dict, gathered; the heap has grown -/
theorem keys_of {prog : Program} {w : World} {A : Around} {E : Value → Shared → Prop} {s : Shared} {d : Addr} {o : Obj} {es : Array DictEntry} {ep : Nat} {R : List Value → Shared → Prop} (lo : (d == sysModules) = false) (hx : o.ExactDict) (hdt : o.data = .dict es ep)
    (hh : A.handled = none) (ho : s.heap.get? d = some o) (hn : es.size ≤ sizeLine)
    (q : ∀ (h' : Heap) (tk : Nat) (acc : Array Value), (∀ b o, s.heap.get? b = some o → h'.get? b = some o) → s.heap.objs.size ≤ h'.objs.size → ItemsOf (fun i v => ∃ en : DictEntry, es[i]? = some en ∧ v = en.key) acc es.size → R acc.toList { s with heap := h', toks := tk }) :
    wpAny (model prog w) A (collect (.ref d)) R E s := by
  have hd : d < s.heap.objs.size := Heap.lt_size ho
  let S := s.heap.objs.size
  let Fin (r : Result) (s' : Shared) : Prop := r = .ok (.ret (.ref S)) ∧ ∃ acc c, s'.heap.get? S = some (lstObj acc c) ∧ R acc.toList s'
  have main : codeAny (model prog w) A (.builtin "list.__iadd__" ⟨[.ref S, .ref d], []⟩) Fin { s with heap := s.heap.push { cls := .type "list", data := .seq #[] } } := by
    refine codeAny_builtin F.entry_list_iadd ?_
    rw [Around.under_plainId F.plain_list_iadd _]
    refine PySem.W.kdl_extend (kdl_raw lo hx hdt) hh (Heap.get?_push_of_some _ ho) S (Nat.ne_of_gt hd) (Nat.ne_of_gt hd) (.ref S) 0 (Heap.get?_push_size _ rfl) (fun h' tk acc c kp hS it => ⟨rfl, acc, c, hS, ?_⟩) hn
    refine q h' tk acc (fun b ob e => kp b ob (Nat.ne_of_lt (Heap.lt_size e)) (Heap.get?_push_of_some _ e)) ?_ it
    exact Nat.le_of_lt (Heap.lt_size hS)
  unfold collect
  refine wpAny_bind (wpAny_runValue (codeAny_builtin F.entry_proto_collect ?_))
  rw [Around.under_plainId F.plain_proto_collect _]
  refine wpAny_bind (wpAny_newObj_type (wpAny_pure ⟨plainId_quiet F.plain_list_iadd _, codeAny_mono main fun r s' x => ?_⟩))
  obtain ⟨rfl, acc, c, hS, hr⟩ := x
  exact wpAny_bind (wpAny_load hS (wpAny_pure hr))
theorem call_sortT (hc : X.calm = true) (hu : X.A.units + 16 < cLine) : CallR X (.builtin "sorted") rSortT := by
  intro pins s σ H xs us Q I r h
  obtain ⟨d, kvs, ns, rfl, hd, hk, q⟩ := h
  obtain ⟨u, rfl, rx⟩ := r.one
  cases rx
  obtain ⟨z, hs, ks, pr, o, es, ep, ho, hx, hdt, he, hn⟩ := (show ObjOk X.prog X.w H s.heap d (.dT kvs) from I.hok d _ hd)
  have l1 : es.size = ks.length := size_of_entries he
  have l2 : kvs.length = ks.length := Paired.length pr
  refine PySem.Calls.call_function_entry kind_sorted plain_sorted entry_sorted (args_sorted1 _) ?_
  unfold Builtin.«sorted»
  refine wpAny_bind (m := checkCount "sorted" 1 1 _) (wpAny_pure ?_)
  refine wpAny_bind (keys_of (A := X.A.in1) hs hx hdt (I.ok.hd hc) ho (by omega) fun h' tk acc' kp hsz it => ?_)
  have ea : acc'.toList = ks.map fun x => Value.ref x.2.1 := by
    have hl : acc'.toList.length = ks.length := by rw [Array.length_toList, it.1]; exact l1
    apply List.ext_getElem?
    intro j
    rw [List.getElem?_map]
    cases hj : acc'.toList[j]? with
    | none =>
      have h1 := List.getElem?_eq_none_iff.mp hj
      rw [List.getElem?_eq_none (by omega)]
      all_goals rfl
    | some v =>
      obtain ⟨en, hen, hv⟩ := it.2 j v (by rw [← Array.getElem?_toList]; exact hj)
      have qe := entry_at he j
      rw [hen] at qe
      cases hb : ks[j]? with
      | none =>
        rw [hb] at qe
        exact nomatch (show some en = none from qe)
      | some b =>
        rw [hb] at qe
        have e2 : en = entryOfKey (tupleKind (mixKind X.prog X.w)) b := Option.some.inj qe
        rw [hv, e2]
        all_goals rfl
  have hlen : acc'.toList.length ≤ sizeLine := by rw [ea, List.length_map]; omega
  have E0 : PySem.W.EachIs (fun v n => ∃ b, v = Value.ref b ∧ NmA H n b) acc'.toList ns := by rw [ea]; exact each_keys pr hk
  have I1 : Inv X pins σ H { s with heap := h'.push { cls := .type "list", data := .seq acc'.toList.toArray }, toks := tk } := I.kept fun b ob e => Heap.get?_push_of_some _ (kp b ob e)
  refine wpAny_bind (wpAny_newList ?_ hlen)
  have hob : (h'.push { cls := .type "list", data := .seq acc'.toList.toArray }).get? h'.objs.size = some (seqObj "list" acc'.toList.toArray 0) := Heap.get?_push_size _ rfl
  have ld : ∀ b : Nm, (nmD b).depth = 1 := fun b => by simp [nmD, PyData.depth, PyData.depthAll]
  refine wpAny_bind (wpAny_holding (wpAny_mono (PySem.W.list_sort_data (A := X.A.in1) (s := { s with heap := h'.push { cls := .type "list", data := .seq acc'.toList.toArray }, toks := tk }) (enc := nmD) (vs := acc'.toList) (bs := ns)
    (R := fun v n => ∃ b, v = Value.ref b ∧ NmA H n b) (Q := fun _ s' => EP X pins σ Q (.ref h'.objs.size) s') (E := fun _ _ => False) hob E0 ?_ (PySem.W.AllAlike.of alike_nm) (PySem.W.Sortable.tuples fun b => ⟨_, _, rfl⟩) (by rw [← E0.length]; exact hlen) (fun b _ => by rw [ld b]; show X.A.units + 1 + 1 + 1 < cLine; omega) ?_)
    (fun _ s' x => wpAny_pure ⟨_, rfl, x⟩) (fun _ _ e => e.elim)))
  · -- the names read off tuples
    refine E0.mono fun v n hv => ?_
    obtain ⟨b, rfl, hb⟩ := hv
    obtain ⟨_, its, rv, ot, hot, hct, nt, hdt2⟩ := (show ObjOk X.prog X.w H _ b (.tup (nmV n)) from I1.hok b _ hb)
    cases rv with
    | cons r1 r2 =>
      cases r2 with
      | cons r3 r4 =>
        cases r4
        obtain ⟨t1, rfl⟩ := r1
        obtain ⟨t2, rfl⟩ := r3
        refine ⟨[] ++ ([] ++ []), .tuple hot hct hdt2 (.cons (.int _ _) (.cons (.str _ _) .nil)), by simp⟩
  · intro out lo eo
    obtain ⟨bs, e1, e2⟩ := each_paired eo
    obtain ⟨ep', hat⟩ := sortedHeap_at (out := out.toArray) hob
    refine ⟨.ref h'.objs.size, _, I.laid (t' := tk) (a := h'.objs.size) (o := .lst (bs.map V.ref)) (fun b ob e => ?_) ?_ ?_, rfl, q _ bs (I.hok.fresh ?_) e2⟩
    · have hlt := Heap.lt_size (kp b ob e)
      rw [sortedHeap_old (Nat.ne_of_lt hlt) (by rw [size_push']; exact Nat.lt_succ_of_lt hlt)]
      exact Heap.get?_push_of_some _ (kp b ob e)
    · exact hsz
    · refine ⟨?_, bs.map Value.ref, ep', vals_refs bs, by rw [← e1]; exact hat⟩
      have e3 : out.length = bs.length := by rw [e1, List.length_map]
      rw [List.length_map, ← e3, lo, ← E0.length]
      exact hlen
    · exact hsz
end
end Mw

namespace Mw
open PySem PySem.Spec PyProof.Rows L2
section
variable {X : Cx}
/-! ### <=, < of names -/
def rLeN (K : PySem.W.Frag) : R2 := fun x y H Q => ∃ n m : Nm, Dp K H x (nmD n) ∧ Dp K H y (nmD m) ∧ Q (.bl (!PySem.W.dataLt (nmD m) (nmD n))) H
theorem op_leN (hu : X.A.units + 64 < cLine) : OpR X (compareOp .LtE) (rLeN X.K) := by
  intro pins s σ H x y v u Q I rx ry h
  obtain ⟨n, m, hn, hm, q⟩ := h
  obtain ⟨as, ra⟩ := Dp.reads I _ x v hn rx
  obtain ⟨bs, rb⟩ := Dp.reads I _ y u hm ry
  refine PySem.W.le_data ra rb (alike_nm n m) (fun z => by cases z) ?_ ⟨.bl _, H, I, rfl, q⟩
  have : (nmD n).depth = 1 := by simp [nmD, PyData.depth, PyData.depthAll]
  omega
/-! ### max(ns, default=d), of ints -/
def maxZ (d : Int) : List Int → Int
  | [] => d
  | n :: r => r.foldl max n
def rMaxDef (K : PySem.W.Frag) : List V → List V → Hp → VK → Prop := fun vs zs H Q => ∃ (a : Addr) (ns : List Int) (d : Int), vs = [.ref a] ∧ zs = [.int d] ∧ SqL K H a (ns.map V.int) ∧ Q (.int (maxZ d ns)) H
theorem alikeInts (ns : List Int) : PySem.W.AlikeAll (ns.map PyData.int) := by
  refine ⟨fun d hd d' hd' => ?_, fun d hd => ?_⟩
  · obtain ⟨i, _, rfl⟩ := List.mem_map.mp hd
    obtain ⟨j, _, rfl⟩ := List.mem_map.mp hd'
    simp [PySem.W.alike]
  · obtain ⟨i, _, rfl⟩ := List.mem_map.mp hd
    intro z
    cases z
theorem call_maxDef (hc : X.calm = true) (hu : X.A.units + 64 < cLine) : CallRK X (.builtin "max") [Str.ofString "default"] (rMaxDef X.K) := by
  intro pins s σ H vs zs us ws Q I r rz h
  obtain ⟨a, ns, d, rfl, rfl, hs, q⟩ := h
  obtain rfl := Vals.ref1 r
  obtain ⟨w1, rfl, t1, rfl⟩ := vals1 rz
  obtain ⟨its, rv, hl, _⟩ := I.list hs
  obtain ⟨as, rs⟩ := Dp.readsAll I (ns.map PyData.int) (ns.map V.int) its (dpInts ns) rv
  have hd0 : PyData.depthAll (ns.map PyData.int) = 0 := PySem.W.depth_ints ns
  refine PySem.W.max_list_default (vs := its.toArray) (I.ok.hd hc) hl.isList (by simpa using rs) (alikeInts ns) (by rw [hd0]; omega) (fun e h' tk kp => ?_) fun y ys i v h' tk bs e hi hr kp => ?_
  · have : ns = [] := List.map_eq_nil_iff.mp e
    subst this
    exact ⟨.int d, H, I.kept kp, ⟨_, rfl⟩, q⟩
  · cases ns with
    | nil => cases e
    | cons n r =>
      have e1 := List.cons.inj e
      rw [← e1.1, ← e1.2, PySem.W.maxD_ints] at hr
      cases hr with
      | int _ t => exact ⟨.int _, H, I.kept kp, ⟨t, rfl⟩, q⟩
/-! ### text * number -/
def repS (z : Str) (n : Nat) : Str := ⟨(List.replicate n z.cps.toList).flatten.toArray⟩
theorem fold_flat : ∀ (l : List (Array Nat)) (a : Array Nat), (l.foldl (· ++ ·) a).toList = a.toList ++ (l.map (·.toList)).flatten
  | [], a => by simp
  | x :: l, a => by rw [List.foldl_cons, fold_flat l]; simp
def rMulS : R2 := fun x y H Q => ∃ (z : Str) (n : Int), x = .str z ∧ y = .int n ∧ 0 ≤ n ∧ n ≤ 1000 ∧ z.length ≤ 1000 ∧ Q (.str (repS z n.toNat)) H
theorem op_mulS : OpR X (binaryOp .Mult) rMulS := by
  intro pins s σ H x y v u Q I rx ry h
  obtain ⟨z, n, rfl, rfl, n0, n1, hz, q⟩ := h
  obtain ⟨t, rfl⟩ := rx
  obtain ⟨t', rfl⟩ := ry
  have hr : (decide (n < -(2 ^ 63 : Int)) || decide (n ≥ 2 ^ 63)) = false := by
    rw [decide_eq_false (by omega), decide_eq_false (by omega)]; rfl
  have hm : z.length * n.toNat ≤ 1000000 := by
    have : n.toNat ≤ 1000 := by omega
    exact Nat.le_trans (Nat.mul_le_mul hz this) (by decide)
  refine PySem.P.mul_str hr (fun h1 _ => ?_) (fun _ _ => ?_) ?_
  · have h2 : (9223372036854775 : Int) ≤ (2 ^ 63 - 1) / n := by
      refine Int.le_ediv_of_mul_le (by omega) ?_
      have : (9223372036854775 : Int) * n ≤ 9223372036854775 * 1000 := Int.mul_le_mul_of_nonneg_left n1 (by decide)
      omega
    omega
  · unfold Builtin.Str.tooLong
    first
      | (rw [decide_eq_false]; omega)
      | (simp; omega)
      | (have := sizeLine_eq; simp only [decide_eq_false_iff_not]; omega)
  · by_cases h1 : n < 1
    · rw [if_pos h1]
      have e : repS z n.toNat = Str.empty := by
        have : n.toNat = 0 := by omega
        rw [this]; rfl
      rw [e] at q
      exact ⟨by decide, ⟨.str _, H, I.tok _, ⟨_, rfl⟩, q⟩⟩
    · rw [if_neg h1]
      cases h2 : (n == 1 || z.length == 0) with
      | true =>
        have e : repS z n.toNat = z := by
          rw [Bool.or_eq_true] at h2
          rcases h2 with h2 | h2
          · have : n = 1 := by simpa using h2
            subst this
            show (⟨(List.replicate 1 z.cps.toList).flatten.toArray⟩ : Str) = z
            simp
          · have hz0 : z.length = 0 := by simpa using h2
            have hz1 : z.cps = #[] := Array.eq_empty_of_size_eq_zero hz0
            have hz2 : z = ⟨#[]⟩ := by cases z; simp at hz1; subst hz1; rfl
            subst hz2
            simp [repS]
        rw [e] at q
        exact ⟨.str _, H, I, ⟨_, rfl⟩, q⟩
      | false =>
        have e : repS z n.toNat = ⟨(List.replicate n.toNat z.cps).foldl (· ++ ·) #[]⟩ := by
          unfold repS
          have := fold_flat (List.replicate n.toNat z.cps) #[]
          rw [List.map_replicate] at this
          simp only [List.nil_append] at this
          rw [← this, Array.toArray_toList]
        rw [e] at q
        refine ⟨?_, ⟨.str _, H, I.tok _, ⟨_, rfl⟩, q⟩⟩
        rw [← e]
        show (repS z n.toNat).length ≤ sizeLine
        have : (repS z n.toNat).length = z.length * n.toNat := by
          simp [repS, Str.length, Nat.mul_comm]
        rw [this, sizeLine_eq]
        omega
/-! ### l[::s], s 1 or -1 -/
def tStp (K : PySem.W.Frag) (te ts : TE) : TE := fun σ H Q => te σ H fun x H1 => tPart ts σ H1 fun o H2 => ∃ (a : Addr) (xs : List V) (st : Int), o = some st ∧ x = .ref a ∧ (st = 1 ∨ st = -1) ∧ SqL K H2 a xs ∧
  ∀ p, H2 p = none → Q (.ref p) (upd H2 p (.lst (if st = 1 then xs else xs.reverse)))
theorem pick_one (its : List Value) : slicePick its.toArray none none (some 1) = its.toArray := by
  have h : slicePick its.toArray none none (some 1) = slicePick its.toArray none none none := rfl
  rw [h, slicePick_cut, HT.sIx_none, HT.sIx_none]
  simp
theorem pe_stp {e st : Expr} {te ts : TE} {p3 pos : Pos} (he : PE X e te) (hs : PE X st ts) :
    PE X (.Subscript e (.Slice none none (some st) p3) pos) (tStp X.K te ts) := by
  refine ⟨fun pins s σ H Q I h => ?_⟩
  refine Subscript_ (thn (he.run pins s σ H _ I h) fun v s1 h1 => ?_)
  obtain ⟨x, H1, I1, r1, h1⟩ := h1
  refine wpAny_Slice (thn (po_none.run pins s1 σ H1 (fun o H2 => o = none ∧ H2 = H1) I1 ⟨rfl, rfl⟩) fun vl s2 h2 => ?_)
  obtain ⟨l, H2, I2, pl, rfl, rfl⟩ := h2
  refine thn (po_none.run pins s2 σ H2 (fun o H3 => o = none ∧ H3 = H2) I2 ⟨rfl, rfl⟩) fun vu s3 h3 => ?_
  obtain ⟨u, H3, I3, pu, rfl, rfl⟩ := h3
  refine thn ((po_some hs).run pins s3 σ H3 _ I3 h1) fun vs s4 h4 => ?_
  obtain ⟨o, H4, I4, ps, a, xs, stp, rfl, rfl, hst, hx, q⟩ := h4
  cases r1
  cases pl
  cases pu
  cases ps
  rename_i tk
  have I5 : Inv X pins σ H4 { s4 with heap := s4.heap.push { cls := .type "slice", data := .fields #[.none, .none, .int stp tk] } } := I4.kept (t' := s4.toks) fun b ob z => Heap.get?_push_of_some _ z
  obtain ⟨its, r, ht, hz⟩ := I5.list hx
  have hlen := r.length
  show wpAny (model X.prog X.w) X.A (subscriptTail e (.Slice none none (some st) p3) (.ref a) (.ref s4.heap.objs.size)) (EP X pins σ Q) X.xe { s4 with heap := s4.heap.push { cls := .type "slice", data := .fields #[.none, .none, .int stp tk] } }
  refine tail_any (ops := [.ref a, .ref s4.heap.objs.size]) ht.isList.typeIs slot_list_getitem.lookup ?_ (by with_unfolding_all rfl)
  refine wpAny_getItem_list_slice ht.isList (Heap.IsSliceOf.new _ _ _ _) .none .none (.int _ _) (by rcases hst with e | e <;> rw [e] <;> decide) ?_ (by rw [List.size_toArray]; omega)
  refine ⟨.ref _, _, I5.laid (t' := s4.toks) (o := .lst (if stp = 1 then xs else xs.reverse)) (fun b ob z => Heap.get?_push_of_some _ z) (Nat.le_refl _) ?_, rfl, q _ (I5.hok.fresh (Nat.le_refl _))⟩
  rcases hst with e | e
  · subst e
    rw [pick_one]
    exact ⟨hz, its, 0, r, Heap.get?_push_size _ rfl⟩
  · subst e
    rw [PySem.W.krv_pick]
    exact ⟨by show xs.reverse.length ≤ _; rw [List.length_reverse]; exact hz, its.reverse, 0, r.reverse, Heap.get?_push_size _ rfl⟩
end
end Mw

namespace Mw
open PySem PySem.Spec PyProof.Rows L2
/-! ### all but some is as it was; tuples stay -/
structure Evs (S : List Addr) (H H' : Hp) : Prop where
  ev : ∀ b o, H b = some o → b ∉ S → H' b = some o
  tp : ∀ b xs, H b = some (.tup xs) → H' b = some (.tup xs)
  fz : ∀ b ob u, H b = some (.frz ob u) → H' b = some (.frz ob u)
  th : ∀ b, H' b = none → H b = none
theorem Evs.refl (S : List Addr) (H : Hp) : Evs S H H := ⟨fun _ _ e _ => e, fun _ _ e => e, fun _ _ _ e => e, fun _ e => e⟩
theorem Evs.trans {S : List Addr} {H H1 H2 : Hp} (a : Evs S H H1) (b : Evs S H1 H2) : Evs S H H2 :=
  ⟨fun c o e n => b.ev c o (a.ev c o e n) n, fun c xs e => b.tp c xs (a.tp c xs e), fun c o u e => b.fz c o u (a.fz c o u e), fun c e => a.th c (b.th c e)⟩
theorem Evs.mono {S T : List Addr} {H H' : Hp} (a : Evs S H H') (h : ∀ b ∈ S, b ∈ T) : Evs T H H' := ⟨fun c o e n => a.ev c o e fun z => n (h c z), a.tp, a.fz, a.th⟩
theorem updNone {H : Hp} {p b : Addr} {o : HO} (h : upd H p o b = none) : H b = none ∧ b ≠ p := by
  by_cases e : b = p
  · rw [e, upd_same] at h; cases h
  · rw [upd_ne e] at h; exact ⟨h, e⟩
theorem Evs.new {S : List Addr} {H : Hp} {p : Addr} {o : HO} (n : H p = none) : Evs S H (upd H p o) := by
  have k : ∀ b u, H b = some u → upd H p o b = some u := fun b u e => by rw [upd_ne (ne_of_none e n)]; exact e
  exact ⟨fun b u e _ => k b u e, fun b xs e => k b _ e, fun b ob u e => k b _ e, fun b e => (updNone e).1⟩
/-- over an old one -/
theorem Evs.own {S : List Addr} {H : Hp} {p : Addr} {o u : HO} (hp : p ∈ S) (e : H p = some u) (h2 : ∀ xs, u ≠ .tup xs) (h3 : ∀ ob y, u ≠ .frz ob y) : Evs S H (upd H p o) := by
  refine ⟨fun b z eb nb => ?_, fun b xs eb => ?_, fun b ob y eb => ?_, fun b eb => (updNone eb).1⟩
  · rw [upd_ne (fun q : b = p => nb (by rw [q]; exact hp))]; exact eb
  · rw [upd_ne]
    · exact eb
    · intro q; rw [q, e] at eb; cases eb; exact h2 xs rfl
  · rw [upd_ne]
    · exact eb
    · intro q; rw [q, e] at eb; cases eb; exact h3 ob y rfl
/-- over one that is new since -/
theorem Evs.put {S : List Addr} {H H' : Hp} {p : Addr} {o : HO} (a : Evs S H H') (n : H p = none) : Evs S H (upd H' p o) := by
  have k : ∀ b u, H b = some u → b ≠ p := fun b u e => ne_of_none e n
  exact ⟨fun b u e nb => by rw [upd_ne (k b u e)]; exact a.ev b u e nb, fun b xs e => by rw [upd_ne (k b _ e)]; exact a.tp b xs e, fun b ob u e => by rw [upd_ne (k b _ e)]; exact a.fz b ob u e, fun b e => a.th b (updNone e).1⟩
theorem Ev.evs {F C : Addr} {ns : List Int} {H H' : Hp} (f : Fd F C ns H) (f' : Fd F C ns H') (e : Ev F H H') : Evs [F] H H' := by
  obtain ⟨kvs, hF, _⟩ := f.ex
  refine ⟨fun b o h n => e b o h fun z => n (by simp [z]), fun b xs h => e b _ h fun z => ?_, fun b ob u h => e b _ h fun z => ?_, fun b h => Ev.free f' e h⟩
  · rw [z, hF] at h; cases h
  · rw [z, hF] at h; cases h
theorem Fd.evs {F C : Addr} {ns : List Int} {S : List Addr} {H H' : Hp} (f : Fd F C ns H) (e : Evs S H H') (h1 : F ∉ S) (h2 : C ∉ S) : Fd F C ns H' := by
  obtain ⟨kvs, hF, k⟩ := f.ex
  exact ⟨⟨kvs, e.ev _ _ hF h1, k⟩, e.ev _ _ f.cl h2⟩
/-! ### data of tuples -/
mutual
def tupD : PyData → Bool
  | .list _ => false
  | .dict _ => false
  | .tuple xs => tupAll xs
  | _ => true
def tupAll : List PyData → Bool
  | [] => true
  | x :: xs => tupD x && tupAll xs
end
theorem Evs.sqT {S : List Addr} {K : PySem.W.Frag} {H H' : Hp} {a : Addr} {xs : List V} (e : Evs S H H') (h : SqT K H a xs) : SqT K H' a xs := by
  rcases h with (h | ⟨o, h⟩) | h
  · exact .inl (.inl (e.tp _ _ h))
  · exact .inl (.inr ⟨o, e.fz _ _ _ h⟩)
  · exact .inr h
mutual
theorem Evs.dp {S : List Addr} {K : PySem.W.Frag} {H H' : Hp} (e : Evs S H H') : ∀ {d : PyData} {v : V}, tupD d = true → Dp K H v d → Dp K H' v d
  | _, _, _, .non => .non
  | _, _, _, .bl b => .bl b
  | _, _, _, .int i => .int i
  | _, _, _, .str x => .str x
  | _, _, t, .lst h a => by simp [tupD] at t
  | _, _, t, .tup h a => .tup (e.sqT h) (e.dpAll (by simpa [tupD] using t) a)
theorem Evs.dpAll {S : List Addr} {K : PySem.W.Frag} {H H' : Hp} (e : Evs S H H') : ∀ {ds : List PyData} {vs : List V}, tupAll ds = true → DpAll K H vs ds → DpAll K H' vs ds
  | _, _, _, .nil => .nil
  | _, _, t, .cons h a => by
    have t' := by simpa [tupAll] using t
    exact .cons (e.dp t'.1 h) (e.dpAll t'.2 a)
end
theorem tup_nm (n : Nm) : tupD (nmD n) = true := rfl
theorem tup_nms : ∀ ns : List Nm, tupAll (ns.map nmD) = true
  | [] => rfl
  | n :: r => by simp [tupAll, tup_nm, tup_nms r]
theorem NmA.evs {S : List Addr} {H H' : Hp} {n : Nm} {b : Addr} (h : NmA H n b) (e : Evs S H H') : NmA H' n b := e.tp _ _ h
theorem Nms.evs {S : List Addr} {H H' : Hp} (e : Evs S H H') : ∀ {ns : List Nm} {bs : List Addr}, Nms H ns bs → Nms H' ns bs
  | _, _, .nil => .nil
  | _, _, .cons h t => .cons (h.evs e) (Nms.evs e t)
theorem Nms.dpAll {K : PySem.W.Frag} {H : Hp} : ∀ {ns : List Nm} {bs : List Addr}, Nms H ns bs → DpAll K H (bs.map V.ref) (ns.map nmD)
  | _, _, .nil => .nil
  | _, _, .cons h t => .cons h.dp (Nms.dpAll t)
theorem Nms.len {H : Hp} {ns : List Nm} {bs : List Addr} (h : Nms H ns bs) : ns.length = bs.length := Paired.length h
theorem Nms.at {H : Hp} : ∀ {ns : List Nm} {bs : List Addr} {i : Nat} {b : Addr}, Nms H ns bs → bs[i]? = some b → ∃ n, ns[i]? = some n ∧ NmA H n b
  | _, _, _, _, .nil, e => by simp at e
  | _, _, 0, _, .cons h t, e => by simp at e; subst e; exact ⟨_, by simp, h⟩
  | _, _, i + 1, _, .cons h t, e => by
    obtain ⟨n, h1, h2⟩ := Nms.at t (i := i) (by simpa using e)
    exact ⟨n, by simpa using h1, h2⟩
theorem Nms.snoc {H : Hp} : ∀ {ns : List Nm} {bs : List Addr} {n : Nm} {b : Addr}, Nms H ns bs → NmA H n b → Nms H (ns ++ [n]) (bs ++ [b])
  | _, _, _, _, .nil, h => .cons h .nil
  | _, _, _, _, .cons h t, h2 => .cons h (Nms.snoc t h2)
/-! ### deeds, changes, worlds -/
inductive Deed where
  | join
  | hang (wide : Bool) (l : Str)
  | answer (n : Nm) (l : Str)
  | put (l : Str)
def kindS : Deed → Str
  | .join => Str.ofString "join"
  | .hang _ _ => Str.ofString "hang"
  | .answer _ _ => Str.ofString "answer"
  | .put _ => Str.ofString "put"
def restD : Deed → List PyData
  | .join => []
  | .hang w l => [.int 0, .int 1, .str (Str.ofString (if w then "wide" else "shut")), .str l]
  | .answer n l => [nmD n, .str l]
  | .put l => [.int 0, .str l]
def deedD (d : Deed) : PyData := .tuple (.str (kindS d) :: restD d)
structure Ch where
  nm : Nm
  hand : Str
  base : List Nm
  deed : Deed
  kn : List Nm
def chD (c : Ch) : PyData := .tuple [nmD c.nm, .str c.hand, .tuple (c.base.map nmD), deedD c.deed]
theorem tup_deed (d : Deed) : tupD (deedD d) = true := by cases d <;> simp [deedD, restD, tupD, tupAll, nmD]
theorem tup_ch (c : Ch) : tupD (chD c) = true := by simp [chD, tupD, tupAll, tup_nm, tup_nms, tup_deed]
/-- a change in the heap: plain tuples all the way -/
def ChA (K : PySem.W.Frag) (H : Hp) (v : V) (c : Ch) : Prop := ∃ (q b tb : Addr) (bb : List Addr) (v3 : V), v = .ref q ∧ H q = some (.tup [.ref b, .str c.hand, .ref tb, v3]) ∧ NmA H c.nm b ∧ H tb = some (.tup (bb.map V.ref)) ∧ Nms H c.base bb ∧ Dp K H v3 (deedD c.deed)
theorem ChA.dp {K : PySem.W.Frag} {H : Hp} {v : V} {c : Ch} (h : ChA K H v c) : Dp K H v (chD c) := by
  obtain ⟨q, b, tb, bb, v3, rfl, h1, h2, h3, h4, h5⟩ := h
  exact .tup (.inl (.inl h1)) (.cons h2.dp (.cons (.str _) (.cons (.tup (.inl (.inl h3)) h4.dpAll) (.cons h5 .nil))))
theorem ChA.evs {S : List Addr} {K : PySem.W.Frag} {H H' : Hp} {v : V} {c : Ch} (h : ChA K H v c) (e : Evs S H H') : ChA K H' v c := by
  obtain ⟨q, b, tb, bb, v3, rfl, h1, h2, h3, h4, h5⟩ := h
  exact ⟨q, b, tb, bb, v3, rfl, e.tp _ _ h1, h2.evs e, e.tp _ _ h3, Nms.evs e h4, e.dp (tup_deed _) h5⟩
abbrev ChAs (K : PySem.W.Frag) (H : Hp) (vs : List V) (cs : List Ch) : Prop := Paired (ChA K H) vs cs
theorem ChAs.dpAll {K : PySem.W.Frag} {H : Hp} : ∀ {vs : List V} {cs : List Ch}, ChAs K H vs cs → DpAll K H vs (cs.map chD)
  | _, _, .nil => .nil
  | _, _, .cons h t => .cons h.dp (ChAs.dpAll t)
theorem ChAs.evs {S : List Addr} {K : PySem.W.Frag} {H H' : Hp} (e : Evs S H H') : ∀ {vs : List V} {cs : List Ch}, ChAs K H vs cs → ChAs K H' vs cs
  | _, _, .nil => .nil
  | _, _, .cons h t => .cons (h.evs e) (ChAs.evs e t)
theorem ChAs.at {K : PySem.W.Frag} {H : Hp} : ∀ {vs : List V} {cs : List Ch} {i : Nat} {v : V}, ChAs K H vs cs → vs[i]? = some v → ∃ c, cs[i]? = some c ∧ ChA K H v c
  | _, _, i, v, .nil, h => by simp at h
  | _, _, 0, v, .cons h t, e => by simp at e; subst e; exact ⟨_, by simp, h⟩
  | _, _, i + 1, v, .cons h t, e => by
    obtain ⟨d, h1, h2⟩ := ChAs.at t (i := i) (by simpa using e)
    exact ⟨d, by simpa using h1, h2⟩
theorem ChAs.snoc {K : PySem.W.Frag} {H : Hp} : ∀ {vs : List V} {cs : List Ch} {v : V} {c : Ch}, ChAs K H vs cs → ChA K H v c → ChAs K H (vs ++ [v]) (cs ++ [c])
  | _, _, _, _, .nil, h => .cons h .nil
  | _, _, _, _, .cons h t, h2 => .cons h (ChAs.snoc t h2)
theorem ChAs.len {K : PySem.W.Frag} {H : Hp} {vs : List V} {cs : List Ch} (h : ChAs K H vs cs) : vs.length = cs.length := Paired.length h
abbrev names (cs : List Ch) : List Nm := cs.map (·.nm)
def findC (cs : List Ch) (n : Nm) : Option Ch := cs.find? fun c => decide (c.nm = n)
def knOf (cs : List Ch) (n : Nm) : List Nm := ((findC cs n).map (·.kn)).getD []
theorem findC_mem {cs : List Ch} {n : Nm} (h : n ∈ names cs) : ∃ c, findC cs n = some c ∧ c ∈ cs ∧ c.nm = n := by
  obtain ⟨c, hc, e⟩ := List.mem_map.mp h
  have : (findC cs n).isSome = true := by
    unfold findC
    rw [List.find?_isSome]
    exact ⟨c, hc, decide_eq_true e⟩
  obtain ⟨c', hc'⟩ := Option.isSome_iff_exists.mp this
  exact ⟨c', hc', List.mem_of_find?_eq_some hc', of_decide_eq_true (List.find?_some (p := fun c : Ch => decide (c.nm = n)) hc')⟩
def ins (l : List Nm) (n : Nm) : List Nm := if n ∈ l then l else l ++ [n]
def gather (l : List Nm) : List Nm := l.foldl ins []
theorem ins_nodup {l : List Nm} {n : Nm} (h : l.Nodup) : (ins l n).Nodup := by
  unfold ins
  split
  · exact h
  · rename_i hn
    rw [List.nodup_append]
    exact ⟨h, by simp, fun a ha b hb => by rw [List.mem_singleton.mp hb]; exact fun e => hn (e ▸ ha)⟩
theorem mem_ins {l : List Nm} {n m : Nm} : m ∈ ins l n ↔ m ∈ l ∨ m = n := by
  unfold ins
  split
  · rename_i h
    exact ⟨.inl, fun z => z.elim id fun e => e ▸ h⟩
  · rw [List.mem_append, List.mem_singleton]
theorem fold_nodup : ∀ (l acc : List Nm), acc.Nodup → (l.foldl ins acc).Nodup
  | [], _, h => h
  | n :: l, acc, h => fold_nodup l (ins acc n) (ins_nodup h)
theorem mem_fold {m : Nm} : ∀ (l acc : List Nm), m ∈ l.foldl ins acc ↔ m ∈ acc ∨ m ∈ l
  | [], _ => by simp
  | n :: l, acc => by
    rw [List.foldl_cons, mem_fold l, mem_ins, List.mem_cons]
    constructor
    · rintro ((h | h) | h)
      · exact .inl h
      · exact .inr (.inl h)
      · exact .inr (.inr h)
    · rintro (h | h | h)
      · exact .inl (.inl h)
      · exact .inl (.inr h)
      · exact .inr h
theorem gather_nodup (l : List Nm) : (gather l).Nodup := fold_nodup l [] .nil
theorem mem_gather {l : List Nm} {m : Nm} : m ∈ gather l ↔ m ∈ l := by unfold gather; rw [mem_fold]; simp
def want (cs : List Ch) (gs : List Nm) : List Nm := gather (gs.flatMap fun g => knOf cs g ++ [g])
def below (cs : List Ch) (fl : List Nm) : List Nm := gather (fl.flatMap (knOf cs))
def mkCh (cs : List Ch) (br : Str) (gs : List Nm) (hand : Str) (deed : Deed) : Ch where
  nm := (1 + maxZ 0 ((srt (want cs gs)).map (·.1)), br)
  hand := hand
  base := (srt (want cs gs)).filter fun n => !decide (n ∈ below cs (srt (want cs gs)))
  deed := deed
  kn := srt (want cs gs)
def lastOf (br : Str) (cs : List Ch) : Option Nm := cs.foldl (fun a c => if c.nm.2 = br then some c.nm else a) none
theorem lastOf_snoc (br : Str) (cs : List Ch) (c : Ch) : lastOf br (cs ++ [c]) = if c.nm.2 = br then some c.nm else lastOf br cs := by
  unfold lastOf; rw [List.foldl_append]; rfl
structure Wrd (z : Str) : Prop where
  one : 1 ≤ z.length
  most : z.length ≤ 8
  low : ∀ c ∈ z.cps.toList, 97 ≤ c ∧ c ≤ 122
structure Ltr (z : Str) : Prop where
  one : 1 ≤ z.length
  most : z.length ≤ 5
  low : ∀ c ∈ z.cps.toList, (97 ≤ c ∧ c ≤ 122) ∨ c = 32
def kindAt (cs : List Ch) (n : Nm) (k : String) : Prop := ∃ c, findC cs n = some c ∧ kindS c.deed = Str.ofString k
def DeedOk (cs : List Ch) (base fl : List Nm) : Deed → Prop
  | .join => 1 < base.length
  | .hang _ l => Ltr l ∧ ∃ n ∈ fl, kindAt cs n "put"
  | .answer n l => Ltr l ∧ n ∈ fl ∧ kindAt cs n "hang"
  | .put l => Ltr l
structure StepOk (ws : List Str) (cs : List Ch) (c : Ch) : Prop where
  ex : ∃ (br hand : Str) (gs : List Nm) (deed : Deed), br ∈ ws ∧ hand ∈ ws ∧ (∀ g ∈ gs, g ∈ names cs) ∧ (∀ n, lastOf br cs = some n → n ∈ gs) ∧ c = mkCh cs br gs hand deed ∧ DeedOk cs c.base c.kn deed
inductive Wr (ws : List Str) : List Ch → Prop
  | nil : Wr ws []
  | snoc {cs : List Ch} {c : Ch} : Wr ws cs → StepOk ws cs c → Wr ws (cs ++ [c])
/-- what a name knows is there -/
theorem knOf_snoc_old {cs : List Ch} {c : Ch} {n : Nm} (h : n ∈ names cs) : findC (cs ++ [c]) n = findC cs n := by
  obtain ⟨c', h1, _⟩ := findC_mem h
  unfold findC at h1 ⊢
  rw [List.find?_append, h1]
  rfl
theorem maxZ_ge : ∀ {l : List Int} {x : Int}, x ∈ l → x ≤ maxZ 0 l
  | n :: r, x, h => by
    have fold : ∀ (r : List Int) (a : Int), a ≤ r.foldl max a ∧ ∀ y ∈ r, y ≤ r.foldl max a := by
      intro r
      induction r with
      | nil => intro a; exact ⟨Int.le_refl _, fun y hy => by cases hy⟩
      | cons m r ih =>
        intro a
        rw [List.foldl_cons]
        obtain ⟨h1, h2⟩ := ih (max a m)
        refine ⟨Int.le_trans (Int.le_max_left a m) h1, fun y hy => ?_⟩
        rcases List.mem_cons.mp hy with e | hy
        · rw [e]; exact Int.le_trans (Int.le_max_right a m) h1
        · exact h2 y hy
    obtain ⟨h1, h2⟩ := fold r n
    rcases List.mem_cons.mp h with e | h
    · rw [e]; exact h1
    · exact h2 x h
theorem mem_want {cs : List Ch} {gs : List Nm} {g : Nm} (h : g ∈ gs) : g ∈ want cs gs := by
  unfold want; rw [mem_gather, List.mem_flatMap]; exact ⟨g, h, by simp⟩
theorem step_above {ws : List Str} {cs : List Ch} {c : Ch} (s : StepOk ws cs c) {n : Nm} (h : lastOf c.nm.2 cs = some n) : n.1 < c.nm.1 := by
  obtain ⟨br, hand, gs, deed, _, _, _, hl, rfl, _⟩ := s.ex
  have h1 := mem_want (cs := cs) (hl n h)
  have h2 : n.1 ∈ (srt (want cs gs)).map (·.1) := List.mem_map.mpr ⟨n, mem_srt.mpr h1, rfl⟩
  have h3 := maxZ_ge h2
  show n.1 < 1 + maxZ 0 ((srt (want cs gs)).map (·.1))
  omega
theorem last_max {ws : List Str} {cs : List Ch} (w : Wr ws cs) : ∀ c ∈ cs, ∃ m, lastOf c.nm.2 cs = some m ∧ c.nm.1 ≤ m.1 := by
  induction w with
  | nil => intro c hc; cases hc
  | snoc w s ih =>
    rename_i cs c0
    intro c hc
    rw [lastOf_snoc]
    rcases List.mem_append.mp hc with h | h
    · obtain ⟨m, h1, h2⟩ := ih c h
      by_cases e : c0.nm.2 = c.nm.2
      · rw [if_pos e]
        refine ⟨c0.nm, rfl, ?_⟩
        rw [← e] at h1
        have := step_above s h1
        omega
      · rw [if_neg e]; exact ⟨m, h1, h2⟩
    · rw [List.mem_singleton.mp h, if_pos rfl]
      exact ⟨_, rfl, Int.le_refl _⟩
theorem step_new {ws : List Str} {cs : List Ch} {c : Ch} (w : Wr ws cs) (s : StepOk ws cs c) : c.nm ∉ names cs := fun h => by
  obtain ⟨c', hc, e⟩ := List.mem_map.mp h
  obtain ⟨m, h1, h2⟩ := last_max w c' hc
  rw [e] at h1 h2
  have := step_above s h1
  omega
/-! ### the world in the heap -/
structure Wa where
  W : Addr
  A1 : Addr
  A2 : Addr
  A3 : Addr
  A4 : Addr
abbrev kCh : Key := Sum.inr "changes"
abbrev kKn : Key := Sum.inr "knows"
abbrev kLa : Key := Sum.inr "last"
abbrev kHa : Key := Sum.inr "hangs"
structure Wd (K : PySem.W.Frag) (a : Wa) (cs : List Ch) (H : Hp) : Prop where
  w : ∃ kvs, H a.W = some (.dK kvs) ∧ valV kvs kCh = some (.ref a.A1) ∧ valV kvs kKn = some (.ref a.A2) ∧ valV kvs kLa = some (.ref a.A3) ∧ valV kvs kHa = some (.ref a.A4)
  c1 : ∃ kvs, H a.A1 = some (.dT kvs) ∧ Paired (fun (c : Ch) (kv : List Key × V) => kv.1 = nmK c.nm ∧ ChA K H kv.2 c) cs kvs
  c2 : ∃ kvs, H a.A2 = some (.dT kvs) ∧ Paired (fun (c : Ch) (kv : List Key × V) => kv.1 = nmK c.nm ∧ ∃ l bs, kv.2 = .ref l ∧ l ≠ a.A4 ∧ H l = some (.lst (bs.map V.ref)) ∧ Nms H c.kn bs) cs kvs
  c3 : ∃ kvs, H a.A3 = some (.dK kvs) ∧ kvs.length ≤ cs.length ∧ ∀ br, (lastOf br cs = none ∧ valV kvs (.inr br) = none) ∨ ∃ n b, lastOf br cs = some n ∧ valV kvs (.inr br) = some (.ref b) ∧ NmA H n b
  c4 : ∃ bs : List Addr, H a.A4 = some (.lst (bs.map V.ref)) ∧ bs.length ≤ cs.length
  ne : a.A1 ≠ a.A2
theorem Wd.evs {K : PySem.W.Frag} {a : Wa} {cs : List Ch} {S : List Addr} {H H' : Hp} (w : Wd K a cs H) (e : Evs S H H') (hs : ∀ b ∈ S, b ≠ a.W ∧ b ≠ a.A1 ∧ b ≠ a.A2 ∧ b ≠ a.A3 ∧ b ≠ a.A4) (hl : ∀ b ∈ S, ∀ xs, H b ≠ some (.lst xs)) : Wd K a cs H' := by
  obtain ⟨kw, w1, w2, w3, w4, w5⟩ := w.w
  obtain ⟨k1, p1, p2⟩ := w.c1
  obtain ⟨k2, q1, q2⟩ := w.c2
  obtain ⟨k3, r1, r2, r3⟩ := w.c3
  obtain ⟨bs, s1, s2⟩ := w.c4
  refine ⟨⟨kw, e.ev _ _ w1 fun z => (hs _ z).1 rfl, w2, w3, w4, w5⟩, ⟨k1, e.ev _ _ p1 fun z => (hs _ z).2.1 rfl, Paired.mapP p2 fun c kv z => ⟨z.1, z.2.evs e⟩⟩, ⟨k2, e.ev _ _ q1 fun z => (hs _ z).2.2.1 rfl, Paired.mapP q2 fun c kv z => ?_⟩,
    ⟨k3, e.ev _ _ r1 fun z => (hs _ z).2.2.2.1 rfl, r2, fun br => ?_⟩, ⟨bs, e.ev _ _ s1 fun z => (hs _ z).2.2.2.2 rfl, s2⟩, w.ne⟩
  · obtain ⟨z1, l, cs', z2, z3, z4, z5⟩ := z
    exact ⟨z1, l, cs', z2, z3, e.ev _ _ z4 fun y => hl _ y _ z4, Nms.evs e z5⟩
  · rcases r3 br with h | ⟨n, b, h1, h2, h3⟩
    · exact .inl h
    · exact .inr ⟨n, b, h1, h2, h3.evs e⟩
/-- a change, by its name -/
theorem pair_get {P : Ch → V → Prop} : ∀ {cs : List Ch} {kvs : List (List Key × V)} {n : Nm}, Paired (fun (c : Ch) (kv : List Key × V) => kv.1 = nmK c.nm ∧ P c kv.2) cs kvs → n ∈ names cs → ∃ c v, findC cs n = some c ∧ valV kvs (nmK n) = some v ∧ P c v
  | _, _, n, .nil, h => by cases h
  | c :: cs, kv :: kvs, n, .cons hk t, h => by
    by_cases e : c.nm = n
    · refine ⟨c, kv.2, ?_, valV_pos (by rw [hk.1, e]), hk.2⟩
      unfold findC
      rw [List.find?_cons, decide_eq_true e]
    · have h' : n ∈ names cs := by
        rcases List.mem_cons.mp h with z | z
        · exact absurd z.symm e
        · exact z
      obtain ⟨c', v, h1, h2, h3⟩ := pair_get t h'
      refine ⟨c', v, ?_, ?_, h3⟩
      · unfold findC at h1 ⊢
        rw [List.find?_cons, decide_eq_false e]
        exact h1
      · rw [valV_neg]
        · exact h2
        · rw [hk.1]
          exact fun z => e (nmK_inj z)
theorem pair_none {P : Ch → V → Prop} : ∀ {cs : List Ch} {kvs : List (List Key × V)} {n : Nm}, Paired (fun (c : Ch) (kv : List Key × V) => kv.1 = nmK c.nm ∧ P c kv.2) cs kvs → n ∉ names cs → valV kvs (nmK n) = none
  | _, _, n, .nil, h => rfl
  | c :: cs, kv :: kvs, n, .cons hk t, h => by
    have h1 : ¬ c.nm = n := fun e => h (by simp [e])
    rw [valV_neg]
    · exact pair_none t fun z => h (List.mem_cons_of_mem _ z)
    · rw [hk.1]
      exact fun z => h1 (nmK_inj z)
theorem pair_keys {P : Ch → V → Prop} : ∀ {cs : List Ch} {kvs : List (List Key × V)}, Paired (fun (c : Ch) (kv : List Key × V) => kv.1 = nmK c.nm ∧ P c kv.2) cs kvs → kvs.map (·.1) = (names cs).map nmK
  | _, _, .nil => rfl
  | _, _, .cons hk t => by
    rw [List.map_cons, pair_keys t, hk.1]
    rfl
theorem pair_snoc {P : Ch → List Key × V → Prop} : ∀ {cs : List Ch} {kvs : List (List Key × V)} {c : Ch} {kv : List Key × V}, Paired P cs kvs → P c kv → Paired P (cs ++ [c]) (kvs ++ [kv])
  | _, _, _, _, .nil, h => .cons h .nil
  | _, _, _, _, .cons h t, h2 => .cons h (pair_snoc t h2)
end Mw

namespace Mw
open PySem PySem.Spec PyProof.Rows L2
structure Txt (mg : Str → Option Value) : Prop where
  isi : mg "isinstance" = none
  int : mg "int" = none
  bool : mg "bool" = none
  str : mg "str" = none
  tup : mg "tuple" = none
  len : mg "len" = none
  all : mg "all" = none
  any : mg "any" = none
  range : mg "range" = none
  ord : mg "ord" = none
  repr : mg "repr" = none
  lst : mg "list" = none
  max : mg "max" = none
  sorted : mg "sorted" = none
  zip : mg "zip" = none
theorem r65 {k : Nat} {A : Around} (r : Room k A) : A.units + 65 < cLine := by have := r.un; omega
theorem r16 {k : Nat} {A : Around} (r : Room k A) : A.units + 16 < cLine := by have := r.un; omega
theorem byR {R G : Prop} (main : R → G) (rest : R) : G := main rest
theorem dg {H : Hp} {F : Addr} {kvs : List (Key × V)} {k : Key} {v : V} (h : H F = some (.dK kvs)) (e : valV kvs k = some v) : DGet H F (kV k) (some v) := by
  have z := DGet.k (k := k) h
  rw [e] at z
  exact z
theorem dgT {H : Hp} {F b : Addr} {kvs : List (List Key × V)} {n : Nm} {o : Option V} (h : H F = some (.dT kvs)) (hb : NmA H n b) (e : valV kvs (nmK n) = o) : DGet H F (.ref b) o := by
  have z := DGet.t (k := nmK n) h hb
  rw [e] at z
  exact z
theorem lenPos {ns : List Int} (h : ns ≠ []) : (0 : Int) < ((ns.map V.int).length : Int) := by
  cases ns with
  | nil => exact absurd rfl h
  | cons x r => rw [List.map_cons, List.length_cons]; omega
theorem item_at {ns : List Int} (h : ns ≠ []) (n : Int) : ∃ cell : Int, atI (ns.map V.int) (n % ((ns.map V.int).length : Int)) = some (.int cell) := by
  have hp := lenPos h
  have h1 := Int.emod_nonneg n (show ((ns.map V.int).length : Int) ≠ 0 by omega)
  have h2 := Int.emod_lt_of_pos n hp
  obtain ⟨j, hj⟩ : ∃ j : Nat, n % ((ns.map V.int).length : Int) = (j : Int) := ⟨_, (Int.toNat_of_nonneg h1).symm⟩
  rw [hj] at h2 ⊢
  have hjl : j < ns.length := by rw [List.length_map] at h2; omega
  exact ⟨ns[j], atI_nat (by rw [List.getElem?_map, List.getElem?_eq_getElem hjl]; rfl)⟩
theorem cut63 (ns : List Int) (h : ns.length ≤ 63) : cutV (ns.map V.int) none (some 63) = ns.map V.int := by
  unfold cutV
  rw [HT.sIx_none, show HT.sIx (ns.map V.int).length (ns.map V.int).length (some 63) = min 63 (ns.map V.int).length from HT.sIx_nat _ _ 63, List.drop_zero, Nat.sub_zero]
  exact List.take_of_length_le (by rw [List.length_map]; omega)
/-! ### an address apart -/
theorem Fd.apart {F C : Addr} {ns : List Int} {H : Hp} (f : Fd F C ns H) {p : Addr} (n : H p = none) : p ≠ F ∧ p ≠ C := by
  obtain ⟨kvs, hF, _⟩ := f.ex
  exact ⟨(fun z => by rw [z, hF] at n; cases n), (fun z => by rw [z, f.cl] at n; cases n)⟩
/-! ### letters -/
theorem low_of {s : String} (h : ((Str.ofString s).cps.toList.all fun c => decide (97 ≤ c) && decide (c ≤ 122)) = true) : ∀ c ∈ (Str.ofString s).cps.toList, 97 ≤ c ∧ c ≤ 122 := fun c hc => by
  have := List.all_eq_true.mp h c hc
  rw [Bool.and_eq_true] at this
  exact ⟨of_decide_eq_true this.1, of_decide_eq_true this.2⟩
theorem at_mem {α : Type} {xs : List α} {r : Int} {c : α} (h : atI xs r = some c) : c ∈ xs := by
  unfold atI at h
  obtain ⟨j, _, hj⟩ := Option.bind_eq_some_iff.mp h
  exact List.mem_of_getElem? hj
theorem cl_one (c : Nat) : (⟨#[c]⟩ : Str).cps.toList = [c] := rfl
theorem sum_le_len : ∀ {ys : List Str}, (∀ y ∈ ys, y.length ≤ 1) → (ys.map (·.length)).sum ≤ ys.length
  | [], _ => Nat.le_refl _
  | y :: r, h => by
    have h1 := h y (by simp)
    have h2 := sum_le_len (ys := r) fun z hz => h z (List.mem_cons_of_mem _ hz)
    rw [List.map_cons, List.sum_cons, List.length_cons]
    omega
/-- a text put together from signs -/
theorem join_ones : ∀ (l : List Nat), (Str.join Str.empty (l.map fun c => (⟨#[c]⟩ : Str))).cps.toList = l
  | [] => rfl
  | [c] => rfl
  | c :: d :: r => by
    have ih := join_ones (d :: r)
    show ((⟨#[c]⟩ : Str) ++ Str.empty ++ Str.join Str.empty ((d :: r).map fun c => (⟨#[c]⟩ : Str))).cps.toList = c :: d :: r
    rw [cl_append, cl_append, ih]
    rfl
theorem str_len (z : Str) : z.length = z.cps.toList.length := by simp [Str.length]
theorem rep_one (c n : Nat) : (repS ⟨#[c]⟩ n).cps.toList = List.replicate n c := by
  unfold repS
  show (List.replicate n [c]).flatten.toArray.toList = _
  simp [List.flatten_replicate_singleton]
theorem cutS_sub {z : Str} {lo hi : Option Int} : ∀ c ∈ (cutS z lo hi).cps.toList, c ∈ z.cps.toList := fun c hc => by
  have hc' : c ∈ ((z.cps.toList.drop (HT.sIx z.length 0 lo)).take (HT.sIx z.length z.length hi - HT.sIx z.length 0 lo)).toArray.toList := hc
  rw [List.toList_toArray] at hc'
  exact List.mem_of_mem_drop (List.mem_of_mem_take hc')
theorem fiF {P : Prop} {b : Bool} (h : b = false) (q : P) {R : Prop} : if b = true then R else P := by rw [h]; exact q
end Mw

namespace Mw
open PySem PySem.Spec PyProof.Rows L2
/-! ### the world, one change more -/
theorem nodup_len {α : Type} [DecidableEq α] : ∀ {l m : List α}, l.Nodup → (∀ x ∈ l, x ∈ m) → l.length ≤ m.length
  | [], _, _, _ => Nat.zero_le _
  | x :: l, m, h, s => by
    have hx := List.nodup_cons.mp h
    have hm : x ∈ m := s x (by simp)
    have h1 : l.length ≤ (m.erase x).length := nodup_len hx.2 fun y hy => (List.mem_erase_of_ne (fun e => hx.1 (by rw [← e]; exact hy))).mpr (s y (List.mem_cons_of_mem _ hy))
    have h2 := List.length_erase_of_mem hm
    have h3 : 0 < m.length := List.length_pos_of_mem hm
    rw [List.length_cons]
    omega
theorem kn_sub {ws : List Str} {cs : List Ch} (w : Wr ws cs) : ∀ c ∈ cs, ∀ n ∈ c.kn, n ∈ names cs := by
  induction w with
  | nil => intro c hc; cases hc
  | snoc w s ih =>
    rename_i cs c0
    intro c hc n hn
    rcases List.mem_append.mp hc with h | h
    · have := ih c h n hn
      show n ∈ (cs ++ [c0]).map (·.nm)
      rw [List.map_append]
      exact List.mem_append_left _ this
    · rw [List.mem_singleton.mp h] at hn
      obtain ⟨br, hand, gs, deed, _, _, hg, _, e, _⟩ := s.ex
      rw [e] at hn
      have hn' : n ∈ want cs gs := mem_srt.mp hn
      unfold want at hn'
      rw [mem_gather, List.mem_flatMap] at hn'
      obtain ⟨g, hgg, hng⟩ := hn'
      show n ∈ (cs ++ [c0]).map (·.nm)
      rw [List.map_append]
      refine List.mem_append_left _ ?_
      rcases List.mem_append.mp hng with h | h
      · obtain ⟨c', h1, h2, _⟩ := findC_mem (hg g hgg)
        unfold knOf at h
        rw [h1] at h
        exact ih c' h2 n h
      · rw [List.mem_singleton.mp h]; exact hg g hgg
theorem kn_of_sub {ws : List Str} {cs : List Ch} (w : Wr ws cs) {g n : Nm} (h : n ∈ knOf cs g) : n ∈ names cs := by
  unfold knOf at h
  cases e : findC cs g with
  | none => rw [e] at h; cases h
  | some c =>
    rw [e] at h
    exact kn_sub w c (List.mem_of_find?_eq_some e) n h
theorem want_sub {ws : List Str} {cs : List Ch} (w : Wr ws cs) {gs : List Nm} (hg : ∀ g ∈ gs, g ∈ names cs) {n : Nm} (h : n ∈ want cs gs) : n ∈ names cs := by
  unfold want at h
  rw [mem_gather, List.mem_flatMap] at h
  obtain ⟨g, hgg, hng⟩ := h
  rcases List.mem_append.mp hng with h | h
  · exact kn_of_sub w h
  · rw [List.mem_singleton.mp h]; exact hg g hgg
theorem want_len {ws : List Str} {cs : List Ch} (w : Wr ws cs) {gs : List Nm} (hg : ∀ g ∈ gs, g ∈ names cs) : (want cs gs).length ≤ cs.length := by
  have := nodup_len (gather_nodup (gs.flatMap fun g => knOf cs g ++ [g])) (m := names cs) fun n hn => want_sub w hg hn
  rwa [List.length_map] at this
theorem br_in {ws : List Str} {cs : List Ch} (w : Wr ws cs) : ∀ n ∈ names cs, n.2 ∈ ws := by
  induction w with
  | nil => intro n hn; cases hn
  | snoc w s ih =>
    rename_i cs c0
    intro n hn
    have hn' : n ∈ (cs ++ [c0]).map (·.nm) := hn
    rw [List.map_append] at hn'
    rcases List.mem_append.mp hn' with h | h
    · exact ih n h
    · obtain ⟨br, hand, gs, deed, hb, _, _, _, e, _⟩ := s.ex
      rw [List.mem_singleton.mp h, e]
      exact hb
theorem last_in (br : Str) : ∀ (cs : List Ch) {n : Nm}, lastOf br cs = some n → n ∈ names cs := by
  intro cs n h
  have gen : ∀ (cs : List Ch) (o : Option Nm), cs.foldl (fun a c => if c.nm.2 = br then some c.nm else a) o = some n → o = some n ∨ n ∈ names cs := by
    intro cs
    induction cs with
    | nil => intro o h; exact .inl h
    | cons c r ih =>
      intro o h
      rcases ih _ h with z | z
      · have z : (if c.nm.2 = br then some c.nm else o) = some n := z
        by_cases e : c.nm.2 = br
        · rw [if_pos e] at z
          exact .inr (by rw [← Option.some.inj z]; exact List.mem_cons_self ..)
        · rw [if_neg e] at z
          exact .inl z
      · exact .inr (List.mem_cons_of_mem _ z)
  rcases gen cs none h with z | z
  · cases z
  · exact z
/-! ### a dict of names, each True -/
abbrev yes (n : Nm) : List Key × V := (nmK n, V.bl true)
theorem valV_yes {n : Nm} : ∀ acc : List Nm, valV (acc.map yes) (nmK n) = if n ∈ acc then some (V.bl true) else none
  | [] => rfl
  | m :: acc => by
    by_cases e : m = n
    · rw [List.map_cons, valV_pos (by rw [e]), if_pos (by simp [e])]
    · have : ¬ nmK m = nmK n := fun z => e (nmK_inj z)
      rw [List.map_cons, valV_neg this, valV_yes acc]
      by_cases h : n ∈ acc
      · rw [if_pos h, if_pos (List.mem_cons_of_mem _ h)]
      · rw [if_neg h, if_neg (fun z => (List.mem_cons.mp z).elim (fun q => e q.symm) h)]
theorem put_yes {n : Nm} (acc : List Nm) : putK (acc.map yes) (nmK n) (V.bl true) = (ins acc n).map yes := by
  unfold ins
  by_cases h : n ∈ acc
  · rw [if_pos h]
    unfold putK
    rw [valV_any, valV_yes, if_pos h, if_pos (show (some (V.bl true)).isSome = true from rfl), List.map_map]
    refine List.map_congr_left fun m _ => ?_
    show (if (yes m).1 = nmK n then ((yes m).1, V.bl true) else yes m) = yes m
    split <;> rfl
  · rw [if_neg h, putK_new _ (by rw [valV_yes, if_neg h]), List.map_append]
    rfl
theorem ins_len (acc : List Nm) (n : Nm) : (ins acc n).length ≤ acc.length + 1 := by
  unfold ins
  split
  · omega
  · rw [List.length_append]; exact Nat.le_refl _
theorem fold_len : ∀ (l acc : List Nm), (l.foldl ins acc).length ≤ acc.length + l.length
  | [], acc => Nat.le_refl _
  | n :: l, acc => by
    have h1 := fold_len l (ins acc n)
    have h2 := ins_len acc n
    rw [List.foldl_cons, List.length_cons]
    omega
theorem putK_le (kvs : List (Key × V)) (k : Key) (v : V) : (putK kvs k v).length ≤ kvs.length + 1 := by
  unfold putK
  split
  · rw [List.length_map]; omega
  · rw [List.length_append]; exact Nat.le_refl _
theorem wd_done {K : PySem.W.Frag} {a : Wa} {cs : List Ch} {H Hf : Hp} {c : Ch} {F ow l : Addr} {bf : List Addr} {v : V} (wd : Wd K a cs H) (e : Evs [F, a.A1, a.A2, a.A3, a.A4] H Hf) (fw : F ≠ a.W) (w3 : a.W ≠ a.A3) (nl : ∀ xs, H F ≠ some (.lst xs)) (new : c.nm ∉ names cs)
    (k1 : ∀ k, H a.A1 = some (.dT k) → Hf a.A1 = some (.dT (putK k (nmK c.nm) v))) (k2 : ∀ k, H a.A2 = some (.dT k) → Hf a.A2 = some (.dT (putK k (nmK c.nm) (.ref l)))) (k3 : ∀ k, H a.A3 = some (.dK k) → Hf a.A3 = some (.dK (putK k (.inr c.nm.2) (.ref ow))))
    (k4 : ∃ bs : List Addr, Hf a.A4 = some (.lst (bs.map V.ref)) ∧ bs.length ≤ cs.length + 1) (dv : ChA K Hf v c) (hl : l ≠ a.A4) (hf : Hf l = some (.lst (bf.map V.ref))) (nf : Nms Hf c.kn bf) (ho : NmA Hf c.nm ow) : Wd K a (cs ++ [c]) Hf := by
  obtain ⟨kw, w1, w2, w4, w5, w6⟩ := wd.w
  obtain ⟨q1, p1, p2⟩ := wd.c1
  obtain ⟨q2, r1, r2⟩ := wd.c2
  obtain ⟨q3, s1, s2, s3⟩ := wd.c3
  obtain ⟨b4, t1, t2⟩ := wd.c4
  have new1 := pair_none (P := fun c v => ChA K H v c) p2 new
  have new2 := pair_none (P := fun c v => ∃ l bs, v = .ref l ∧ l ≠ a.A4 ∧ H l = some (.lst (bs.map V.ref)) ∧ Nms H c.kn bs) r2 new
  have hk1 := k1 _ p1
  have hk2 := k2 _ r1
  have hk3 := k3 _ s1
  rw [putK_new _ new1] at hk1
  rw [putK_new _ new2] at hk2
  refine ⟨⟨kw, e.ev _ _ w1 ?_, w2, w4, w5, w6⟩, ⟨_, hk1, pair_snoc (Paired.mapP p2 fun c kv z => ⟨z.1, z.2.evs e⟩) ⟨rfl, dv⟩⟩, ⟨_, hk2, pair_snoc (Paired.mapP r2 fun c kv z => ?_) ⟨rfl, l, bf, rfl, hl, hf, nf⟩⟩, ⟨_, hk3, ?_, fun br => ?_⟩, ?_, wd.ne⟩
  · simp only [List.mem_cons, List.not_mem_nil, or_false, not_or]
    exact ⟨Ne.symm fw, ne_of w1 p1 (fun z => by cases z), ne_of w1 r1 (fun z => by cases z), w3, ne_of w1 t1 (fun z => by cases z)⟩
  · obtain ⟨z1, l', bs', z2, z3, z4, z5⟩ := z
    refine ⟨z1, l', bs', z2, z3, e.ev _ _ z4 ?_, Nms.evs e z5⟩
    simp only [List.mem_cons, List.not_mem_nil, or_false, not_or]
    exact ⟨fun z => nl _ (z ▸ z4), ne_of z4 p1 (fun z => by cases z), ne_of z4 r1 (fun z => by cases z), ne_of z4 s1 (fun z => by cases z), z3⟩
  · have := putK_le q3 (Sum.inr c.nm.2) (V.ref ow)
    rw [List.length_append, List.length_singleton]
    omega
  · rw [lastOf_snoc, valV_put]
    by_cases h : c.nm.2 = br
    · rw [if_pos h, if_pos (by rw [h])]
      exact .inr ⟨_, ow, rfl, rfl, ho⟩
    · rw [if_neg h, if_neg (fun z => h (Sum.inr.inj z).symm)]
      rcases s3 br with z | ⟨n, b, z1, z2, z3⟩
      · exact .inl z
      · exact .inr ⟨n, b, z1, z2, z3.evs e⟩
  · obtain ⟨bs, h1, h2⟩ := k4
    exact ⟨bs, h1, by rw [List.length_append]; exact h2⟩
theorem Evs.skip {S : List Addr} {p : Addr} {H H1 H2 : Hp} (a : Evs S H H1) (b : Evs [p] H1 H2) (n : H p = none) : Evs S H H2 :=
  ⟨fun c o e nc => b.ev c o (a.ev c o e nc) (by rw [List.mem_singleton]; exact ne_of_none e n), fun c xs e => b.tp c xs (a.tp c xs e), fun c o u e => b.fz c o u (a.fz c o u e), fun c e => a.th c (b.th c e)⟩
theorem aways {K : PySem.W.Frag} {a : Wa} {cs : List Ch} {H : Hp} {p : Addr} (w : Wd K a cs H) (n : H p = none) : p ≠ a.W ∧ p ≠ a.A1 ∧ p ≠ a.A2 ∧ p ≠ a.A3 ∧ p ≠ a.A4 := by
  obtain ⟨_, w1, _⟩ := w.w
  obtain ⟨_, p1, _⟩ := w.c1
  obtain ⟨_, p2, _⟩ := w.c2
  obtain ⟨_, p3, _⟩ := w.c3
  obtain ⟨_, p4, _⟩ := w.c4
  exact ⟨(ne_of_none w1 n).symm, (ne_of_none p1 n).symm, (ne_of_none p2 n).symm, (ne_of_none p3 n).symm, (ne_of_none p4 n).symm⟩
theorem names_sub {cs : List Ch} {c : Ch} : ∀ n ∈ names cs, n ∈ names (cs ++ [c]) := fun n hn => by
  show n ∈ (cs ++ [c]).map (·.nm)
  rw [List.map_append]
  exact List.mem_append_left _ hn
theorem kn_nodup {ws : List Str} {cs : List Ch} (w : Wr ws cs) : ∀ c ∈ cs, c.kn.Nodup := by
  induction w with
  | nil => intro c hc; cases hc
  | snoc w s ih =>
    intro c hc
    rcases List.mem_append.mp hc with h | h
    · exact ih c h
    · obtain ⟨br, hand, gs, deed, _, _, _, _, e, _⟩ := s.ex
      rw [List.mem_singleton.mp h, e]
      exact (srt_perm _).nodup_iff.mpr (gather_nodup _)
theorem kn_len {ws : List Str} {cs : List Ch} {m : Nat} (w : Wr ws cs) (h : cs.length ≤ m) : ∀ c ∈ cs, c.kn.length ≤ m := fun c hc => by
  have := nodup_len (kn_nodup w c hc) (m := names cs) (kn_sub w c hc)
  rw [List.length_map] at this
  omega
theorem gather_snoc (l : List Nm) (n : Nm) : gather (l ++ [n]) = ins (gather l) n := by unfold gather; rw [List.foldl_append]; rfl
theorem byC {Fa R : Hp → Prop} {G : Prop} (main : (∀ Hc, Fa Hc → R Hc) → G) (rest : ∀ Hc, Fa Hc → R Hc) : G := main rest
theorem byC2 {Fa R : Addr → Hp → Prop} {G : Prop} (main : (∀ p Hc, Fa p Hc → R p Hc) → G) (rest : ∀ p Hc, Fa p Hc → R p Hc) : G := main rest
end Mw

namespace Mw
open PySem PySem.Spec PyProof.Rows L2
/-! ### tuple(.. for x in a tuple ..) -/
theorem tg_tup {K : PySem.W.Frag} {a : Addr} {xs : List V} {g : TG} {tt : TT} {te : TE} {vs : List Nat} {σ : L2.St} {H : Hp} {En : List V → Hp → Prop} (Pv : Nat → List V → Hp → Prop) (h0 : Pv 0 [] H) (hl : ∀ i ys H, i ≤ xs.length → Pv i ys H → SqT K H a xs)
    (hs : ∀ i x ys H, xs[i]? = some x → Pv i ys H → g x (wipe σ vs) H fun σ2 H2 => wipe σ2 vs = wipe σ vs ∧ tt σ2 H2 fun b H3 =>
      if b = true then te σ2 H3 fun y H4 => (stpL ys y = none ∧ False) ∨ ∃ a', stpL ys y = some a' ∧ Pv (i + 1) a' H4 else Pv (i + 1) ys H3) (hd : ∀ ys H, Pv xs.length ys H → En ys H) :
    ∃ W : Nat → Nat → List V → Hp → Prop, (∃ m, W 0 m [] H) ∧ turns (Itt K a) g tt te vs stpL (fun _ _ _ => False) En σ W := by
  refine ⟨fun i m ys H => i + m = xs.length ∧ Pv i ys H, ⟨xs.length, by omega, h0⟩, fun i m ys H w => ?_⟩
  obtain ⟨e, pv⟩ := w
  have sq := hl i ys H (by omega) pv
  by_cases hi : i < xs.length
  · refine .inr ⟨⟨xs, xs[i], sq, List.getElem?_eq_getElem hi⟩, fun a' H' => Pv (i + 1) a' H', fun a' H' n => ⟨m - 1, by omega, by omega, n⟩, fun x H' y => ?_⟩
    obtain ⟨rfl, y⟩ := y
    exact hs i x ys _ (y xs sq) pv
  · have e2 : i = xs.length := by omega
    subst e2
    exact .inl ⟨⟨xs, sq, Nat.le_refl _⟩, hd ys H pv⟩
/-! ### zip of two lists -/
theorem for_zipM {K : PySem.W.Frag} {a b : Addr} {xs ys : List V} {g : TG} {tb : TS} {D : Ends} {σ : L2.St} {H : Hp} (Pv : Nat → L2.St → Hp → Prop) (h0 : Pv 0 σ H) (hq : ∀ i σ H, Pv i σ H → SqL K H a xs ∧ SqL K H b ys)
    (hs : ∀ (i : Nat) (x y : V) (T : Addr) (σ : L2.St) (H : Hp), xs[i]? = some x → ys[i]? = some y → Pv i σ H → H T = none → g (.ref T) σ (upd H T (.tup [x, y])) fun σ2 H2 => tb { D with nx := Pv (i + 1), ct := Pv (i + 1), bk := D.nx } σ2 H2)
    (hd : ∀ i σ H, Pv i σ H → (xs.length ≤ i ∨ ys.length ≤ i) → D.nx σ H) :
    ∃ W : Nat → Nat → L2.St → Hp → Prop, (∃ m, W 0 m σ H) ∧ ∀ i m σ H, W i m σ H →
      ((Itz K a b).stop i H ∧ D.nx σ H) ∨ ((Itz K a b).go i H ∧ ∃ N : L2.St → Hp → Prop, (∀ σ' H', N σ' H' → ∃ m', m' < m ∧ W (i + 1) m' σ' H') ∧ ∀ v H', (Itz K a b).yld i H v H' → g v σ H' fun σ2 H2 => tb { D with nx := N, ct := N, bk := D.nx } σ2 H2) := by
  refine ⟨fun i m σ H => xs.length ≤ i + m ∧ Pv i σ H, ⟨xs.length, by omega, h0⟩, ?_⟩
  rintro i m σ H ⟨hm, p⟩
  obtain ⟨qx, qy⟩ := hq i σ H p
  by_cases hlt : i < xs.length ∧ i < ys.length
  · refine .inr ⟨⟨xs, ys, _, _, qx, qy, List.getElem?_eq_getElem hlt.1, List.getElem?_eq_getElem hlt.2⟩, Pv (i + 1), fun σ' H' p' => ⟨m - 1, by omega, by omega, p'⟩, fun v H' y => ?_⟩
    obtain ⟨T, x', y', rfl, hT, rfl, f1, f2⟩ := y
    exact hs i x' y' T σ H (f1 xs qx) (f2 ys qy) p hT
  · have hend : xs.length ≤ i ∨ ys.length ≤ i := by omega
    exact .inl ⟨⟨xs, ys, qx, qy, hend⟩, hd i σ H p hend⟩
/-! ### the order of names -/
def lexLe : List Nat → List Nat → Bool
  | [], _ => true
  | _ :: _, [] => false
  | a :: l, b :: m => if a = b then lexLe l m else decide (a < b)
theorem lexLe_eq : ∀ l m : List Nat, lexLe l m = !decide (m < l)
  | [], m => by simp [lexLe]
  | a :: l, [] => by simp [lexLe]
  | a :: l, b :: m => by
    unfold lexLe
    by_cases h : a = b
    · subst h
      rw [if_pos rfl, lexLe_eq l m]
      congr 1
      rw [decide_eq_decide, List.cons_lt_cons_iff]
      constructor
      · exact fun z => .inr ⟨rfl, z⟩
      · rintro (z | ⟨_, z⟩)
        · exact absurd z (Nat.lt_irrefl _)
        · exact z
    · rw [if_neg h]
      by_cases h2 : a < b
      · rw [decide_eq_true h2]
        have : ¬ (b :: m < a :: l) := by
          rw [List.cons_lt_cons_iff]
          rintro (z | ⟨z, _⟩) <;> omega
        rw [decide_eq_false this]
        rfl
      · rw [decide_eq_false h2]
        have : b :: m < a :: l := by
          rw [List.cons_lt_cons_iff]
          exact .inl (by omega)
        rw [decide_eq_true this]
        rfl
def leN (m n : Nm) : Bool := !PySem.W.dataLt (nmD n) (nmD m)
theorem leN_eq (m n : Nm) : leN m n = if m.1 = n.1 then lexLe m.2.cps.toList n.2.cps.toList else decide (m.1 < n.1) := by
  unfold leN nmD
  rw [PySem.W.dataLt_pair (by simp [PySem.W.alike]) (by simp [PySem.W.alike]), PySem.W.dataLt_int, PySem.W.dataLt_str, lexLe_eq]
  have e1 : PyData.eqv (.int n.1) (.int m.1) = decide (n.1 = m.1) := by simp [PyData.eqv]; rfl
  have e2 : PyData.eqv (.str n.2) (.str m.2) = decide (n.2 = m.2) := by simp [PyData.eqv]; rfl
  rw [e1, e2]
  by_cases h : m.1 = n.1
  · rw [if_pos h, if_pos (decide_eq_true h.symm)]
    by_cases h2 : n.2 = m.2
    · rw [if_pos (decide_eq_true h2), h2, decide_eq_false (List.lt_irrefl _)]
    · rw [if_neg (by simpa using h2)]
  · rw [if_neg h, if_neg (by simpa using fun z => h z.symm)]
    by_cases h2 : n.1 < m.1
    · rw [decide_eq_true h2, decide_eq_false (by omega)]; rfl
    · rw [decide_eq_false h2, decide_eq_true (by omega)]; rfl
theorem lexLe_drop {l m : List Nat} {i : Nat} {x y : Nat} (hx : l[i]? = some x) (hy : m[i]? = some y) : lexLe (l.drop i) (m.drop i) = if x = y then lexLe (l.drop (i + 1)) (m.drop (i + 1)) else decide (x < y) := by
  obtain ⟨h1, h2⟩ := List.getElem?_eq_some_iff.mp hx
  obtain ⟨h3, h4⟩ := List.getElem?_eq_some_iff.mp hy
  rw [List.drop_eq_getElem_cons h1, List.drop_eq_getElem_cons h3, h2, h4]
  rfl
theorem lexLe_end {l m : List Nat} {i : Nat} (h : l.length ≤ i ∨ m.length ≤ i) (hi : i ≤ l.length ∧ i ≤ m.length) : lexLe (l.drop i) (m.drop i) = decide (l.length ≤ m.length) := by
  by_cases h1 : l.length ≤ i
  · rw [List.drop_eq_nil_of_le h1, decide_eq_true (by omega)]
    rfl
  · have hm : m.length ≤ i := by omega
    have hlt : i < l.length := by omega
    rw [List.drop_eq_nil_of_le hm, List.drop_eq_getElem_cons hlt, decide_eq_false (by omega)]
    rfl
/-! ### tables -/
theorem Grw.evs {T : List Addr} {H H' : Hp} (t : Tb T H) (g : Grw T H H') : Evs T H H' := by
  have nt : ∀ b o, H b = some o → (∀ ps, o ≠ .tbl ps) → b ∉ T := fun b o e h hb => by
    obtain ⟨ps, h1, _⟩ := t b hb
    rw [h1] at e
    cases e
    exact h ps rfl
  exact ⟨fun b o e nb => by rw [g.2 b nb]; exact e, fun b xs e => by rw [g.2 b (nt b _ e fun ps z => by cases z)]; exact e, fun b ob u e => by rw [g.2 b (nt b _ e fun ps z => by cases z)]; exact e, fun b e => g.none e⟩
theorem Tb.evs {S T : List Addr} {H H' : Hp} (t : Tb T H) (e : Evs S H H') (h : ∀ p ∈ T, p ∉ S) : Tb T H' := fun p hp => by
  obtain ⟨ps, h1, h2⟩ := t p hp
  exact ⟨ps, e.ev _ _ h1 (h p hp), h2⟩
theorem dp_nm {K : PySem.W.Frag} {H : Hp} {v : V} {n : Nm} (h : Dp K H v (nmD n)) : ∃ q, v = .ref q ∧ SqT K H q (nmV n) := by
  unfold nmD at h
  cases h with
  | tup hs ha =>
    cases ha with
    | cons h0 ha =>
      cases ha with
      | cons h1 ha =>
        cases ha
        cases h0
        cases h1
        exact ⟨_, rfl, hs⟩
theorem dpAll_at {K : PySem.W.Frag} {H : Hp} : ∀ {vs : List V} {ds : List PyData} {i : Nat} {v : V}, DpAll K H vs ds → vs[i]? = some v → ∃ d, ds[i]? = some d ∧ Dp K H v d
  | _, _, i, v, .nil, h => by simp at h
  | _, _, 0, v, .cons h t, e => by simp at e; subst e; exact ⟨_, by simp, h⟩
  | _, _, i + 1, v, .cons h t, e => by
    obtain ⟨d, h1, h2⟩ := dpAll_at t (i := i) (by simpa using e)
    exact ⟨d, by simpa using h1, h2⟩
end Mw

namespace Mw
open PySem PySem.Spec PyProof.Rows L2
/-! ### ledgers can be shown -/
structure NmOk (n : Nm) : Prop where
  wrd : Wrd n.2
  lo : 0 ≤ n.1
  hi : n.1 ≤ 100
def DeedSm : Deed → Prop
  | .join => True
  | .hang _ l => Ltr l
  | .answer n l => NmOk n ∧ Ltr l
  | .put l => Ltr l
structure ChOk (c : Ch) : Prop where
  nm : NmOk c.nm
  hand : Wrd c.hand
  base : ∀ n ∈ c.base, NmOk n
  bl : c.base.length ≤ 17
  deed : DeedSm c.deed
theorem maxZ_le {B : Int} (hB : 0 ≤ B) : ∀ {l : List Int}, (∀ x ∈ l, 0 ≤ x ∧ x ≤ B) → 0 ≤ maxZ 0 l ∧ maxZ 0 l ≤ B
  | [], _ => ⟨Int.le_refl _, hB⟩
  | n :: r, h => by
    have fold : ∀ (r : List Int) (a : Int), 0 ≤ a → a ≤ B → (∀ x ∈ r, 0 ≤ x ∧ x ≤ B) → 0 ≤ r.foldl max a ∧ r.foldl max a ≤ B := by
      intro r
      induction r with
      | nil => intro a h0 h1 _; exact ⟨h0, h1⟩
      | cons m r ih =>
        intro a h0 h1 hr
        rw [List.foldl_cons]
        have hm := hr m (by simp)
        exact ih (max a m) (by omega) (by omega) fun x hx => hr x (List.mem_cons_of_mem _ hx)
    have hn := h n (by simp)
    exact fold r n hn.1 hn.2 fun x hx => h x (List.mem_cons_of_mem _ hx)
theorem cnt_le {ws : List Str} {cs : List Ch} (w : Wr ws cs) : ∀ n ∈ names cs, 0 ≤ n.1 ∧ n.1 ≤ (cs.length : Int) := by
  induction w with
  | nil => intro n hn; cases hn
  | snoc w s ih =>
    rename_i cs c0
    intro n hn
    have hn' : n ∈ (cs ++ [c0]).map (·.nm) := hn
    rw [List.map_append] at hn'
    rw [List.length_append, List.length_singleton]
    rcases List.mem_append.mp hn' with h | h
    · have := ih n h
      omega
    · obtain ⟨br, hand, gs, deed, _, _, hg, _, e, _⟩ := s.ex
      rw [List.mem_singleton.mp h, e]
      have hb := maxZ_le (B := (cs.length : Int)) (by omega) (l := (srt (want cs gs)).map (·.1)) fun x hx => by
        obtain ⟨m, hm, rfl⟩ := List.mem_map.mp hx
        exact ih m (want_sub w hg (mem_srt.mp hm))
      show 0 ≤ 1 + maxZ 0 ((srt (want cs gs)).map (·.1)) ∧ 1 + maxZ 0 ((srt (want cs gs)).map (·.1)) ≤ _
      omega
theorem nm_ok {ws : List Str} {cs : List Ch} (w : Wr ws cs) (ww : ∀ z ∈ ws, Wrd z) (h : cs.length ≤ 17) : ∀ n ∈ names cs, NmOk n := fun n hn => by
  have := cnt_le w n hn
  exact ⟨ww _ (br_in w n hn), this.1, by omega⟩
theorem ch_ok {ws : List Str} {cs : List Ch} (w : Wr ws cs) (ww : ∀ z ∈ ws, Wrd z) : cs.length ≤ 17 → ∀ c ∈ cs, ChOk c := by
  induction w with
  | nil => intro _ c hc; cases hc
  | snoc w s ih =>
    rename_i cs c0
    intro hl c hc
    have hl' : cs.length ≤ 17 := by rw [List.length_append] at hl; omega
    rcases List.mem_append.mp hc with h | h
    · exact ih hl' c h
    · have e := List.mem_singleton.mp h
      have nmc : NmOk c.nm := nm_ok (.snoc w s) ww hl c.nm (List.mem_map.mpr ⟨c, hc, rfl⟩)
      obtain ⟨br, hand, gs, deed, _, hh, hg, _, e2, dk⟩ := s.ex
      rw [e] at nmc ⊢
      have kin : ∀ n ∈ c0.kn, NmOk n := fun n hn => by
        rw [e2] at hn
        exact nm_ok w ww hl' n (want_sub w hg (mem_srt.mp hn))
      have bs : ∀ n ∈ c0.base, n ∈ c0.kn := fun n hn => by
        rw [e2] at hn ⊢
        exact (List.mem_filter.mp hn).1
      have kl : c0.base.length ≤ 17 := by
        rw [e2]
        have h1 : ((srt (want cs gs)).filter fun n => !decide (n ∈ below cs (srt (want cs gs)))).length ≤ (srt (want cs gs)).length := List.length_filter_le ..
        rw [srt_len] at h1
        have h2 := want_len w hg
        show ((srt (want cs gs)).filter fun n => !decide (n ∈ below cs (srt (want cs gs)))).length ≤ 17
        omega
      refine ⟨nmc, by rw [e2]; exact ww _ hh, fun n hn => kin n (bs n hn), kl, ?_⟩
      have ed : c0.deed = deed := by rw [e2]; rfl
      rw [ed]
      cases deed with
      | join => trivial
      | hang wi l => exact dk.1
      | answer n l => exact ⟨kin n dk.2.1, dk.1⟩
      | put l => exact dk
theorem fine_str {z : Str} {n : Nat} (a : Asc n z) : fine (.str z) = true ∧ wt (.str z) ≤ 10 * n + 2 := by
  refine ⟨?_, ?_⟩
  · simp only [fine]
    rw [List.all_eq_true]
    exact fun c hc => decide_eq_true (a.2 c hc)
  · simp only [wt]
    have := a.1
    omega
theorem Wrd.asc {z : Str} (w : Wrd z) : Asc 8 z := ⟨w.most, fun c hc => by have := w.low c hc; omega⟩
theorem Ltr.asc {z : Str} (w : Ltr z) : Asc 5 z := ⟨w.most, fun c hc => by have := w.low c hc; omega⟩
theorem log2_le100 {i : Int} (h0 : 0 ≤ i) (h : i ≤ 100) : i.natAbs.log2 < 1920 := by
  have h2 : i.natAbs < 2 ^ 1000 := Nat.lt_of_lt_of_le (show i.natAbs < 1000 by omega) (by decide +kernel)
  exact Nat.lt_of_lt_of_le (PySem.Flt.log2_lt_of (by decide) h2) (by decide)
theorem fine_nm {n : Nm} (h : NmOk n) : fine (nmD n) = true ∧ wt (nmD n) ≤ 2010 ∧ (nmD n).depth = 1 := by
  obtain ⟨f1, f2⟩ := fine_str h.wrd.asc
  have f3 : fine (.int n.1) = true := by simpa [fine] using log2_le100 h.lo h.hi
  refine ⟨by simp only [nmD, fine, fineAll] at *; simp [f1, f3], ?_, by simp [nmD, PyData.depth, PyData.depthAll]⟩
  simp only [nmD, wt, wtAll] at *
  omega
theorem fine_nms : ∀ {l : List Nm}, (∀ n ∈ l, NmOk n) → fineAll (l.map nmD) = true ∧ wtAll (l.map nmD) ≤ 2012 * l.length ∧ PyData.depthAll (l.map nmD) ≤ 1
  | [], _ => ⟨rfl, by simp [wtAll], by simp [PyData.depthAll]⟩
  | n :: r, h => by
    obtain ⟨a, b, c⟩ := fine_nm (h n (by simp))
    obtain ⟨a2, b2, c2⟩ := fine_nms (l := r) fun m hm => h m (List.mem_cons_of_mem _ hm)
    refine ⟨by simp only [List.map_cons, fineAll, a, a2, Bool.and_self], ?_, ?_⟩
    · simp only [List.map_cons, wtAll, List.length_cons]
      omega
    · simp only [List.map_cons, PyData.depthAll, c]
      omega
theorem fine_deed {d : Deed} (h : DeedSm d) : fine (deedD d) = true ∧ wt (deedD d) ≤ 4200 ∧ (deedD d).depth ≤ 2 := by
  have f0 : fine (.int 0) = true := by decide +kernel
  have f1 : fine (.int 1) = true := by decide +kernel
  cases d with
  | join =>
    exact ⟨by decide +kernel, by decide +kernel, by decide +kernel⟩
  | hang wi l =>
    obtain ⟨a, b⟩ := fine_str (Ltr.asc h)
    have k : fine (.str (Str.ofString "hang")) = true ∧ wt (.str (Str.ofString "hang")) ≤ 42 := by decide +kernel
    have k2 : fine (.str (Str.ofString (if wi then "wide" else "shut"))) = true ∧ wt (.str (Str.ofString (if wi then "wide" else "shut"))) ≤ 42 := by cases wi <;> decide +kernel
    refine ⟨?_, ?_, ?_⟩
    · have e : fine (deedD (.hang wi l)) = (fine (.str (Str.ofString "hang")) && (fine (.int 0) && (fine (.int 1) && (fine (.str (Str.ofString (if wi then "wide" else "shut"))) && (fine (.str l) && true))))) := by simp only [deedD, restD, kindS, fine, fineAll]
      rw [e, a, k.1, k2.1, f0, f1]
      rfl
    · simp only [deedD, restD, kindS, wt, wtAll] at *
      omega
    · simp [deedD, restD, PyData.depth, PyData.depthAll]
  | answer n l =>
    obtain ⟨a, b⟩ := fine_str (Ltr.asc h.2)
    obtain ⟨c, d, e⟩ := fine_nm h.1
    have k : fine (.str (Str.ofString "answer")) = true ∧ wt (.str (Str.ofString "answer")) ≤ 62 := by decide +kernel
    refine ⟨?_, ?_, ?_⟩
    · simp only [deedD, restD, kindS] at *
      simp only [fine, fineAll] at *
      simp [a, k.1, c]
    · simp only [deedD, restD, kindS]
      have : wt (.tuple [.str (Str.ofString "answer"), nmD n, .str l]) = wt (.str (Str.ofString "answer")) + 2 + (wt (nmD n) + 2 + (wt (.str l) + 2 + 0)) + 3 := by simp only [wt, wtAll]
      rw [this]
      omega
    · simp only [deedD, restD, PyData.depth, PyData.depthAll, e]
      decide
  | put l =>
    obtain ⟨a, b⟩ := fine_str (Ltr.asc h)
    have k : fine (.str (Str.ofString "put")) = true ∧ wt (.str (Str.ofString "put")) ≤ 42 := by decide +kernel
    refine ⟨?_, ?_, ?_⟩
    · simp only [deedD, restD, kindS, fine, fineAll] at *
      simp [a, k.1, f0]
    · simp only [deedD, restD, kindS, wt, wtAll] at *
      omega
    · simp [deedD, restD, PyData.depth, PyData.depthAll]
theorem fine_ch {c : Ch} (h : ChOk c) : fine (chD c) = true ∧ wt (chD c) ≤ 41000 ∧ (chD c).depth ≤ 3 := by
  obtain ⟨a1, a2, a3⟩ := fine_nm h.nm
  obtain ⟨b1, b2⟩ := fine_str h.hand.asc
  obtain ⟨c1, c2, c3⟩ := fine_nms h.base
  obtain ⟨d1, d2, d3⟩ := fine_deed h.deed
  have hb := h.bl
  have e1 : fine (chD c) = (fine (nmD c.nm) && (fine (.str c.hand) && (fineAll (c.base.map nmD) && (fine (deedD c.deed) && true)))) := by simp only [chD, fine, fineAll]
  have e2 : wt (chD c) = wt (nmD c.nm) + 2 + (wt (.str c.hand) + 2 + ((wtAll (c.base.map nmD) + 3) + 2 + (wt (deedD c.deed) + 2 + 0))) + 3 := by simp only [chD, wt, wtAll]
  refine ⟨by rw [e1, a1, b1, c1, d1]; rfl, by rw [e2]; omega, ?_⟩
  simp only [chD, PyData.depth, PyData.depthAll, a3]
  omega
theorem fine_chs : ∀ {L : List Ch}, (∀ c ∈ L, ChOk c) → fineAll (L.map chD) = true ∧ wtAll (L.map chD) ≤ 41002 * L.length ∧ PyData.depthAll (L.map chD) ≤ 3
  | [], _ => ⟨rfl, by simp [wtAll], by simp [PyData.depthAll]⟩
  | c :: r, h => by
    obtain ⟨a, b, d⟩ := fine_ch (h c (by simp))
    obtain ⟨a2, b2, d2⟩ := fine_chs (L := r) fun m hm => h m (List.mem_cons_of_mem _ hm)
    refine ⟨by simp only [List.map_cons, fineAll, a, a2, Bool.and_self], ?_, ?_⟩
    · simp only [List.map_cons, wtAll, List.length_cons]
      omega
    · simp only [List.map_cons, PyData.depthAll]
      omega
abbrev ledD (L : List Ch) : PyData := .tuple (L.map chD)
theorem led_rp {K : PySem.W.Frag} {H : Hp} {x : V} {L : List Ch} (h : ∀ c ∈ L, ChOk c) (hl : L.length ≤ 17) (d : Dp K H x (ledD L)) : Dp K H x (ledD L) ∧ (ledD L).showable = true ∧ (ledD L).canLay0 = true ∧ (ledD L).depth ≤ 32 ∧ (ledD L).shown.length ≤ 16000000 := by
  obtain ⟨a, b, c⟩ := fine_chs h
  have hf : fine (ledD L) = true := by simp only [fine]; exact a
  obtain ⟨s1, s2, s3⟩ := fine_show hf
  refine ⟨d, s1, s2, by simp only [PyData.depth]; omega, Nat.le_trans s3 ?_⟩
  simp only [wt]
  have : 41002 * L.length ≤ 41002 * 17 := Nat.mul_le_mul_left _ hl
  omega
end Mw

namespace Mw
open PySem PySem.Spec PyProof.Rows L2
/-! ### {k: v for x in ..}, keys tuples -/
theorem setT {X : Cx} {pins : List (Addr × Obj)} {σ : L2.St} {H : Hp} {s : Shared} {E : Value → Shared → Prop} {D b : Addr} {kvs : List (List Key × V)} {k : List Key} {v : V} {r : Value} {Q : Unit → Shared → Prop} (hu : X.A.units + 1 < cLine) (I : Inv X pins σ H s)
    (hD : H D = some (.dT kvs)) (hb : H b = some (.tup (k.map kV))) (hz : kvs.length < sizeLine) (rv : RelV v r) (h : ∀ s', Inv X pins σ (upd H D (.dT (putK kvs k v))) s' → Q () s') : wpAny (model X.prog X.w) X.A (dictSet D (.ref b) r) Q E s := by
  obtain ⟨z, hd, xs, rel, dd⟩ := dt_of I.hok hD
  have hl : (putK kvs k v).length ≤ sizeLine := by
    have : (putK kvs k v).length ≤ kvs.length + 1 := by
      unfold putK
      split
      · rw [List.length_map]; omega
      · rw [List.length_append]; exact Nat.le_refl _
    omega
  have room : (tupleKind (mixKind X.prog X.w)).room X.A := by
    first
      | exact tupleKind_room hu
      | exact tupleKind_room (Nat.lt_of_succ_lt hu)
      | (show X.A.units < cLine; omega)
      | (show X.A.units + 1 < cLine; omega)
  refine wpAny_dictSet_heap (hsz := by rw [← Paired.length rel]; exact z) room (key_of I.hok hb) dd fun h' dd' hs => h _ ?_
  obtain ⟨q, es, ep, hq, h2, h3, h4, _, h5⟩ := dd'
  refine d_write I (by rw [hD]; exact True.intro) hs ⟨q, hq⟩ ⟨hl, hd, _, (rel.put k hb rv).keeps fun c ys ec => ?_, q, es, ep, hq, h2, h3, h4, h5⟩
  rw [upd_ne (ne_of ec hD (fun z => nomatch z))]
  exact ec
/-- what its turns ask: D is the new dict -/
def tDcT (wi : TI) (g : TG) (tt : TT) (tk tv : TE) (vs : List Nat) : TE := fun σ H Q => wi σ H fun J H1 => ∀ D, H1 D = none → ∃ W : Nat → Nat → Hp → Prop, (∃ m, W 0 m (upd H1 D (.dT []))) ∧ ∀ i m H, W i m H →
  (J.stop i H ∧ Q (.ref D) H) ∨ (J.go i H ∧ ∃ Nx : Hp → Prop, (∀ H', Nx H' → ∃ m', m' < m ∧ W (i + 1) m' H') ∧ ∀ x H', J.yld i H x H' → g x (wipe σ vs) H' fun σ2 H2 => wipe σ2 vs = wipe σ vs ∧ tt σ2 H2 fun b H3 =>
    if b = true then tk σ2 H3 fun y H4 => tv σ2 H4 fun z H5 => ∃ kvs k b, y = .ref b ∧ H5 b = some (.tup (k.map kV)) ∧ H5 D = some (.dT kvs) ∧ kvs.length < sizeLine ∧ Nx (upd H5 D (.dT (putK kvs k z))) else Nx H3)
section
variable {X : Cx} {kx vx tg iter : Expr} {ifs : List Expr} {scope : Scope} {own : List (Str × Nat)} {pos : Pos} {wi : TI} {g : TG} {tt : TT} {tk tv : TE}
theorem pe_dcT (hu : X.A.units + 1 < cLine) (hc : X.calm = true) (hN : X.N.Nodup) (hi : PI X tg iter wi) (ok : BlkOk X.N X.env.scope scope own)
    (hg : ∀ (s : Shared) (H : Hp) (C : Addr) (cl : List (Str × Addr)) (fp : List Addr), PG (X.blk s H scope (compEnvC scope cl C X.env) fp) tg g) (ht : ∀ (s : Shared) (H : Hp) (C : Addr) (cl : List (Str × Addr)) (fp : List Addr), PTs (X.blk s H scope (compEnvC scope cl C X.env) fp) ifs tt)
    (hk : ∀ (s : Shared) (H : Hp) (C : Addr) (cl : List (Str × Addr)) (fp : List Addr), PE (X.blk s H scope (compEnvC scope cl C X.env) fp) kx tk)
    (hv : ∀ (s : Shared) (H : Hp) (C : Addr) (cl : List (Str × Addr)) (fp : List Addr), PE (X.blk s H scope (compEnvC scope cl C X.env) fp) vx tv) (hs : ∀ x, foldedSetIterable iter X.env x = pure x := by intro _; rfl) :
    PE X (.DictComp kx vx [⟨tg, iter, ifs, 0⟩] scope pos) (tDcT wi g tt tk tv (own.map (·.2))) := by
  refine ⟨fun pins s σ H Q I h => ?_⟩
  rw [arm_eval_DictComp]
  have frees : ∀ y ∈ scope.names, y.2 = .free → ∃ c, X.env.cells.lookup y.1 = some c := fun y hy e => (ok.free y hy e).elim (fun k => I.ok.has _ (.inl k)) fun k => I.ok.has _ (.inr k)
  refine wpAny_comprehension_free rfl hs (closure_ok frees) ok.kind (fun y hy e => by rw [ok.uniq y hy, e]) (thn (hi.run pins s σ H _ I h) fun _ _ hx => thn hx fun _ s2 ⟨it, fp, tn, J, H2, e, I2, T, st2, f2, q⟩ => ?_)
  subst e
  refine wpAny_newObj_type (newEnv_comp ?_)
  obtain ⟨D, hD⟩ : ∃ D, D = s2.heap.objs.size := ⟨_, rfl⟩
  obtain ⟨W, ⟨m0, w0⟩, turn⟩ := q D (I2.hok.fresh (Nat.le_of_eq hD.symm))
  obtain ⟨s3, hs3⟩ : ∃ s3 : Shared, s3 = { s2 with heap := s2.heap.push { cls := .type "dict", data := .dict #[] } } := ⟨_, rfl⟩
  obtain ⟨H3, hH3⟩ : ∃ H3, H3 = upd H2 D (.dT []) := ⟨_, rfl⟩
  rw [← hH3] at w0
  have keep3 : ∀ b o, s2.heap.get? b = some o → s3.heap.get? b = some o := fun b o e => by rw [hs3]; exact Heap.get?_push_of_some _ e
  have I3 : Inv X pins σ H3 s3 := by
    rw [hs3, hH3, hD]
    exact I2.laid (t' := s2.toks) (fun b o e => Heap.get?_push_of_some _ e) (Nat.le_refl _) (dt_empty s2.heap I2.big)
  have f3 : ∀ b ∈ fp, FpOk X pins H3 b ∧ b < s3.heap.objs.size := fun b hb => by
    obtain ⟨o, e, _⟩ := T.obj _ _ st2 b hb
    have hlt := Heap.lt_size e
    refine ⟨⟨?_, (f2 b hb).2⟩, Heap.lt_size (keep3 b o e)⟩
    rw [hH3, upd_ne (by rw [hD]; exact Nat.ne_of_lt hlt)]
    exact (f2 b hb).1
  have I4 := block_start I3 ok hN f3
  have st3 : tn 0 s3.heap := T.keep _ _ _ st2 fun b _ o e => keep3 b o e
  obtain ⟨cl, hcl⟩ : ∃ cl, cl = cellsFrom (s3.heap.objs.size + 1) scope.names (cloFrom X.env.cells scope.names []) := ⟨_, rfl⟩
  have pg := hg s3 H3 s3.heap.objs.size cl fp
  have pt := ht s3 H3 s3.heap.objs.size cl fp
  have pk := hk s3 H3 s3.heap.objs.size cl fp
  have pv := hv s3 H3 s3.heap.objs.size cl fp
  have nfp : ∀ b ∈ fp, H3 b = none := fun b hb => (f3 b hb).1.1
  rw [← hcl] at I4
  obtain ⟨ce, hce⟩ : ∃ ce, ce = compEnvC scope cl s3.heap.objs.size X.env := ⟨_, rfl⟩
  obtain ⟨s4, hs4⟩ : ∃ s4 : Shared, s4 = { s3 with heap := pushCells (s3.heap.push { cls := .type "dict", data := .dict #[] }) scope.names } := ⟨_, rfl⟩
  rw [← hce] at I4 pg pt pk pv
  rw [← hs4] at I4
  have cL : ce.locals = s3.heap.objs.size := by rw [hce]; rfl
  suffices goal' : codeAny (model X.prog X.w) X.A (.compStart (.DictComp kx vx [⟨tg, iter, ifs, 0⟩] scope pos) 0 (.ref it) (.ref D) ce) (compPost (model X.prog X.w) X.A X.xe none (EP X pins σ Q) (.ref D) s3.heap.objs.size) s4 by
    rw [hce, hcl, hs4, hs3, hD] at goal'
    exact goal'
  have st4 : tn 0 s4.heap := T.keep _ _ _ st3 fun b _ o e => by rw [hs4]; exact pushCells_keeps _ _ _ _ (Heap.get?_push_of_some _ e)
  let Y := X.blk s3 H3 scope ce fp
  have own_ok : ∀ {σ' : L2.St} {H' : Hp} {s' : Shared}, Inv Y [] σ' H' s' → (∀ b ∈ fp, H' b = none) → ∀ b ∈ fp, FpOk Y [] H' b := fun {σ' H' s'} I' hn b hb =>
    ⟨hn b hb, (I'.ok.exf b hb).1, I'.ok.exfs b hb, .inl hb, fun x c e => (I'.ok.exf b hb).2 x c e, fun p hp => absurd (show p ∈ ([] : List (Addr × Obj)) ++ [] from hp) (by simp)⟩
  have loop : codeAny (model X.prog X.w) X.A (.compLoop (.DictComp kx vx [⟨tg, iter, ifs, 0⟩] scope pos) 0 (.ref it) (.ref D) ce) (compPost (model X.prog X.w) X.A X.xe none (EP X pins σ Q) (.ref D) s3.heap.objs.size) s4 := by
    refine compLoop_anyD (fun n s' => ∃ i H', Inv Y [] (wipe σ (own.map (·.2))) H' s' ∧ tn i s'.heap ∧ (∀ b ∈ fp, H' b = none) ∧ W i n H') ?_ m0 ⟨0, H3, I4, st4, nfp, w0⟩
    rintro n s5 ⟨i, H5, I5, st5, n5, w5⟩
    rcases turn i n H5 w5 with ⟨stop, qq⟩ | ⟨go, Nx, hNx, step⟩
    · refine thnF (T.done Y rfl rfl rfl hc i [] s5 _ H5 (fun _ _ => False) I5 (own_ok I5 n5) st5 stop) fun r s6 ⟨hr, I6⟩ => ?_
      subst hr
      have I7 : Inv X pins σ H5 s6 := I3.call' (ch := fp) I6.os I6.base I6.hok I6.bare fun b hb => ⟨(f3 b hb).1.2.2.2.1, (f3 b hb).1.2.1, (f3 b hb).1.2.2.2.2.1, (f3 b hb).1.2.2.2.2.2⟩
      have nC : H5 s3.heap.objs.size = none := by rw [← cL]; exact I6.free
      obtain ⟨m, hn, _⟩ := I6.loc
      have hn' : s6.heap.Ns s3.heap.objs.size m := by rw [← cL]; exact hn
      obtain ⟨f0, f1, f2', f3', f4, f5⟩ := I3.fpOk (Nat.le_refl _) nC
      exact ⟨m, hn', fun h'' sb => ⟨.ref D, H5, I7.turned (t' := s6.toks) (fun b o hb e => (sb.2 b hb).trans e) f0 f1 f3' f4 f5, rfl, qq⟩⟩
    · refine thnF (T.item Y rfl rfl rfl hc i [] s5 _ H5 (fun _ _ => False) I5 (own_ok I5 n5) st5 go) fun r s6 ⟨u, hr, h6⟩ => ?_
      subst hr
      refine thnF h6 fun _ s7 ⟨x, H7, I7, r7, y7, st7, n7⟩ => ?_
      have I7' := I7.pinned (own_ok I7 n7) (T.obj _ _ st7)
      refine thnF (pg.run _ s7 _ H7 x u _ I7' r7 (step x H7 y7)) fun _ s8 ⟨σ8, H8, I8, hw8, q8⟩ => ?_
      refine thnF (pt.run _ s8 σ8 H8 _ I8 q8) fun b s9 ⟨H9, I9, q9⟩ => ?_
      have fin : ∀ {s' : Shared} {H' : Hp}, Inv Y ([] ++ pinsAt fp s7.heap) σ8 H' s' → Nx H' → ∃ m, m < n ∧ ∃ i H', Inv Y [] (wipe σ (own.map (·.2))) H' s' ∧ tn i s'.heap ∧ (∀ b ∈ fp, H' b = none) ∧ W i m H' := fun {s' H'} I' nx => by
        obtain ⟨m', hm, w'⟩ := hNx H' nx
        have pin : ∀ b ∈ fp, ∀ o, s7.heap.get? b = some o → s'.heap.get? b = some o ∧ H' b = none := fun b hb o e => by
          have z := I'.pin (b, o) (List.mem_append_right _ (List.mem_append_right _ (mem_pinsAt hb e)))
          exact ⟨z.1, z.2.1⟩
        refine ⟨m', hm, i + 1, H', (I'.unpinned (pins := [])).weak (by rw [← hw8, wipe_length]) (fun j v e => by rw [← hw8] at e; exact (wipe_some e).1), T.keep _ _ _ st7 fun b hb o e => (pin b hb o e).1, fun b hb => ?_, w'⟩
        obtain ⟨o, e, _⟩ := T.obj _ _ st7 b hb
        exact (pin b hb o e).2
      cases b with
      | false =>
        simp only [Bool.false_eq_true, if_false] at q9 ⊢
        exact fin I9 q9
      | true =>
        simp only [if_true] at q9 ⊢
        refine thnF (pk.run _ s9 σ8 H9 _ I9 q9) fun z s10 ⟨yk, H10, I10, r10, q10⟩ => ?_
        refine thnF (pv.run _ s10 σ8 H10 _ I10 q10) fun z2 s11 ⟨yv, H11, I11, r11, kvs, k, kb, ek, hkb, hD11, hz11, nx⟩ => ?_
        subst ek
        obtain rfl : z = Value.ref kb := r10
        exact setT (X := Y) hu I11 hD11 hkb hz11 r11 fun s12 I12 => fin I12 nx
  exact codeAny_compStart_dict loop (T.self X.A 0 _ _ _ st4 loop)
/-- over a tuple that stays -/
theorem dcT_tup {K : PySem.W.Frag} {a : Addr} {xs : List V} {g : TG} {tt : TT} {tk tv : TE} {vs : List Nat} {σ : L2.St} {H1 : Hp} {D : Addr} {Qd : Hp → Prop} (Pv : Nat → Hp → Prop) (h0 : Pv 0 (upd H1 D (.dT []))) (hl : ∀ i H, i ≤ xs.length → Pv i H → SqT K H a xs)
    (hs : ∀ i x H, xs[i]? = some x → Pv i H → g x (wipe σ vs) H fun σ2 H2 => wipe σ2 vs = wipe σ vs ∧ tt σ2 H2 fun b H3 =>
      if b = true then tk σ2 H3 fun y H4 => tv σ2 H4 fun z H5 => ∃ kvs k b, y = .ref b ∧ H5 b = some (.tup (k.map kV)) ∧ H5 D = some (.dT kvs) ∧ kvs.length < sizeLine ∧ Pv (i + 1) (upd H5 D (.dT (putK kvs k z))) else Pv (i + 1) H3) (hd : ∀ H, Pv xs.length H → Qd H) :
    ∃ W : Nat → Nat → Hp → Prop, (∃ m, W 0 m (upd H1 D (.dT []))) ∧ ∀ i m H, W i m H →
      ((Itt K a).stop i H ∧ Qd H) ∨ ((Itt K a).go i H ∧ ∃ Nx : Hp → Prop, (∀ H', Nx H' → ∃ m', m' < m ∧ W (i + 1) m' H') ∧ ∀ x H', (Itt K a).yld i H x H' → g x (wipe σ vs) H' fun σ2 H2 => wipe σ2 vs = wipe σ vs ∧ tt σ2 H2 fun b H3 =>
        if b = true then tk σ2 H3 fun y H4 => tv σ2 H4 fun z H5 => ∃ kvs k b, y = .ref b ∧ H5 b = some (.tup (k.map kV)) ∧ H5 D = some (.dT kvs) ∧ kvs.length < sizeLine ∧ Nx (upd H5 D (.dT (putK kvs k z))) else Nx H3) := by
  refine ⟨fun i m H => i + m = xs.length ∧ Pv i H, ⟨xs.length, by omega, h0⟩, fun i m H ⟨e, pv⟩ => ?_⟩
  have sq := hl i H (by omega) pv
  by_cases hi : i < xs.length
  · refine .inr ⟨⟨xs, xs[i], sq, List.getElem?_eq_getElem hi⟩, Pv (i + 1), fun H' n => ⟨m - 1, by omega, by omega, n⟩, fun x H' y => ?_⟩
    obtain ⟨rfl, y⟩ := y
    exact hs i x _ (y xs sq) pv
  · have e2 : i = xs.length := by omega
    subst e2
    exact .inl ⟨⟨xs, sq, Nat.le_refl _⟩, hd H pv⟩
end
end Mw

namespace Mw
open PySem PySem.Spec PyProof.Rows L2 GenW
/-! ### any(elt for tg in iter if ..) -/
section
variable {X : Cx} {pins : List (Addr × Obj)} {σ : L2.St}
theorem any_loop {P : Program} {w : World} {A : Around} {Y : Cx} (hYP : Y.prog = P) (hYw : Y.w = w) {ga g : Nat} {Rr : Result → Shared → Prop} {Q : Bool → Hp → Prop} (hh : A.handled = none) (hd : A.depth < recursionLimit)
    (hE : ∀ ps σ H s1 h' x, x.bare = true → Inv Y ps σ H s1 → Q false H → (∀ b o, s1.heap.get? b = some o → h'.get? b = some o) → Rr (.ok (.ret (.bool false))) { s1.setGen g x with heap := h' })
    (hF : ∀ ps σ H s1 x, x.bare = true → Inv Y ps σ H s1 → Q true H → Rr (.ok (.ret (.bool true))) (s1.setGen g x)) :
    ∀ (n : Nat) (s : Shared), s.heap.IsGen ga g → s.heap.NoLimit →
      (∃ gs, s.gens[g]? = some gs ∧ gs.Goes (model P w) A.in1.in1 (fun n s0 r s1 => r = .ok .next ∧ gR Y (conA ga g false) (fun _ H => Q false H) n s0 s1) (gY Y (conA ga g false) fun _ y H => y = .bl true ∧ Q true H) n (.send .none) (s.setGen g .running)) →
      codeAny (model P w) A (.builtin "any.loop" ⟨[.ref ga], []⟩) Rr s := by
  subst hYP hYw
  intro n
  induction n with
  | zero =>
    intro s hg hl ⟨gs, hgs, hgo⟩
    refine codeAny_builtin F.entry_any_loop ?_
    rw [Around.under_plainId F.plain_any_loop _]
    show wpAny _ A.in1 (pyNext (.ref ga) >>= _) _ _ s
    refine wpAny_bind (wpAny_pyNext_genexpQ (A := A.in1) hh hl hd hg hgs hgo (fun v s1 gs' hb hv => ?_) fun s1 hp h' hk => ?_)
    · obtain ⟨a, y, ps, σ, H, ry, I, _, _, q⟩ := hv
      rcases q with ⟨_, rfl, q⟩ | ⟨a', q1, q2⟩
      · cases ry
        refine wpAny_bind (wpAny_holding (wpAny_truthy_bool ?_))
        refine wpAny_bind (wpAny_letGo ?_)
        simp only [if_true]
        refine wpAny_bind (wpAny_rule (wpAny_pure ?_))
        exact hF ps σ H s1 gs' hb I q
      · have hi : s1.heap.IsGen ga g := by assumption
        exact (q2 _ (idle_set (x := .running) (y := .running) I.bare rfl rfl hi) hi).elim
    · obtain ⟨a, ps, σ, H, I, _, _, q⟩ := hp
      refine wpAny_bind (wpAny_rule (wpAny_pure ?_))
      exact hE ps σ H s1 h' .finished rfl I q hk
  | succ n ih =>
    intro s hg hl ⟨gs, hgs, hgo⟩
    have hgl : g < s.gens.size := (Array.getElem?_eq_some_iff.mp hgs).1
    refine codeAny_builtin F.entry_any_loop ?_
    rw [Around.under_plainId F.plain_any_loop _]
    show wpAny _ A.in1 (pyNext (.ref ga) >>= _) _ _ s
    refine wpAny_bind (wpAny_gsz (n := g + 1) hgl (wpAny_pyNext_genexpQ (A := A.in1) hh hl hd hg hgs hgo (fun v s1 gs' hb hv hsz => ?_) fun s1 hp h' hk hsz => ?_))
    · obtain ⟨a, y, ps, σ, H, ry, I, _, hi, q⟩ := hv
      rcases q with ⟨_, rfl, q⟩ | ⟨a', q1, q2⟩
      · cases ry
        refine wpAny_bind (wpAny_holding (wpAny_truthy_bool ?_))
        refine wpAny_bind (wpAny_letGo ?_)
        simp only [if_true]
        refine wpAny_bind (wpAny_rule (wpAny_pure ?_))
        exact hF ps σ H s1 gs' hb I q
      · have ey : y = .bl false := by
          by_cases e : y = .bl false
          · exact e
          · have z : (conA ga g false).stp a y = none := if_neg e
            rw [z] at q1
            cases q1
        subst ey
        cases ry
        refine wpAny_bind (wpAny_holding (wpAny_truthy_bool ?_))
        refine wpAny_bind (wpAny_letGo ?_)
        simp only [Bool.false_eq_true, if_false]
        have hi' : s1.heap.IsGen ga g := hi
        have hgl1 : g < s1.gens.size := by
          have e1 : (s1.setGen g gs').gens.size = s1.gens.size := setGen_size _ _ _
          omega
        refine wpAny_pure ⟨plainId_quiet F.plain_any_loop _, ih (s1.setGen g gs') hi' I.nolimit ⟨gs', setGen_at hgl1, ?_⟩⟩
        exact q2 _ (idle_set I.bare hb rfl hi') hi'
    · obtain ⟨a, ps, σ, H, I, _, _, q⟩ := hp
      refine wpAny_bind (wpAny_rule (wpAny_pure ?_))
      exact hE ps σ H s1 h' .finished rfl I q hk
end
def tAnyG (P : Addr) (wi : TI) (g : TG) (tt : TT) (te : TE) (vs : List Nat) : TE := fun σ H Q => wi σ H fun J H1 => GxR.TabG H1 P ∧ ∀ H2, GxR.Tabbed P H1 H2 →
  ∃ W : Nat → Nat → Unit → Hp → Prop, (∃ m, W 0 m () H2) ∧ turns J g tt te vs (stpA false) (fun _ y H => y = .bl true ∧ Q (.bl true) H) (fun _ H => Q (.bl false) H) σ W
theorem boot_any : bootBuiltins "any" = some (.builtin "any") := by decide +kernel
section
variable {X : Cx}
theorem pe_anyG {c P : Addr} {elt tg iter : Expr} {ifs : List Expr} {scope : Scope} {own : List (Str × Nat)} {p pos gpos : Pos} {wi : TI} {g : TG} {tt : TT} {te : TE} {k : Nat}
    (hr : Room k X.A) (hg : Gl X "any") (hm : X.mg "any" = none) (TB : GxR.TabB X.base X.mg c P) (hcode : X.env.code = .ref c) (hN : X.N.Nodup) (hi : PI X tg iter wi) (G : GParts X elt tg iter ifs scope own g tt te)
    (he : starEach [gG elt tg iter ifs scope gpos] X.env = (false, eval (gG elt tg iter ifs scope gpos) X.env) :: starEach [] X.env := by rfl) :
    PE X (.Call (.Name "any" p) [gG elt tg iter ifs scope gpos] [] pos) (tAnyG P wi g tt te (own.map (·.2))) := by
  refine ⟨fun pins s σ H Q I h => ?_⟩
  refine wpAny_Call_Name_kw (ld_blt I hg hm boot_any ?_)
  refine PyProof.Rows.callWith_builtin1 ?_ he (by rfl)
  rw [he]
  show wpAny _ _ (spliced ((false, eval (gG elt tg iter ifs scope gpos) X.env) :: backTo pos (starEach [] X.env))) _ _ s
  refine Calls.spliced_cons (gen_eval (R := fun J H2 => ∃ W : Nat → Nat → Unit → Hp → Prop, (∃ m, W 0 m () H2) ∧ turns J g tt te (List.map (fun q : Str × Nat => q.2) own) (stpA false) (fun _ y H => y = .bl true ∧ Q (.bl true) H) (fun _ H => Q (.bl false) H) σ W)
    hr TB hcode hi G.ok G.nc G.co G.dot G.hs I h fun ga gn t it fp tn J H2 s2 code M hR => ?_)
  obtain ⟨W, ⟨m, w0⟩, tu⟩ := hR
  refine Calls.spliced_nil ?_
  refine call_function_tree F.kind_any F.plain_any F.entry_any (F.args_any1 _) ?_
  unfold Builtin.«any»
  refine wpAny_bind (m := oneArg "any" _) (wpAny_pure ?_)
  refine wpAny_bind (wpAny_pyIter_gen M.isg ?_)
  have ga_ : GA X (gEnv X scope s2.heap.objs.size code) (gB X.A.in1.in1 elt tg iter ifs scope gpos it (gEnv X scope s2.heap.objs.size code)) :=
    ga_of hr M.inv.ok.frames rfl rfl rfl rfl (by show X.A.units + 1 + 1 ≤ _; omega)
  have fok : ∀ b ∈ fp, FpOk X pins H2 b := fun b hb => (M.fok b hb).1
  refine wpAny_pure ⟨plainId_quiet F.plain_any_loop _, any_loop (Y := gcx X (gB X.A.in1.in1 elt tg iter ifs scope gpos it (gEnv X scope s2.heap.objs.size code)) s2 H2 (gEnv X scope s2.heap.objs.size code) fp) (Q := fun b H => Q (.bl b) H) rfl rfl hr.hd hr.depth
    (fun ps σ' H' s1 h' x hx J' q hk => ?_) (fun ps σ' H' s1 x hx J' q => ?_) (m + 1) t M.isg ?_ ⟨_, M.gen, ?_⟩⟩
  · refine ⟨.bl false, H', ?_, rfl, q⟩
    exact (gen_back M.inv fok J' hx).kept (t' := s1.toks) hk
  · exact ⟨.bl true, H', gen_back M.inv fok J' hx, rfl, q⟩
  · exact M.inv.nolimit.keeps M.kp
  · exact gen_goes (c := conA ga gn false) M hr G.ok G.nc hN G.co (fun b hb => by rw [List.mem_singleton.mp hb]; exact M.ga) ga_
      (G.pg _ _ _ _ _ _ ga_) (G.pt _ _ _ _ _ _ ga_) (G.pe _ _ _ _ _ _ ga_) tu w0 (Nat.lt_succ_self _) rfl (allBare_setGen M.bare rfl) (fun _ _ e => e) M.isg
end
end Mw

namespace Mw
open PySem PySem.Spec PyProof.Rows L2
/-! ### what a world's changes know -/
theorem names_nodup {ws : List Str} {cs : List Ch} (w : Wr ws cs) : (names cs).Nodup := by
  induction w with
  | nil => exact .nil
  | snoc w s ih =>
    rename_i cs c0
    show ((cs ++ [c0]).map (·.nm)).Nodup
    rw [List.map_append, List.nodup_append]
    refine ⟨ih, by simp, fun a ha b hb => ?_⟩
    rw [List.mem_singleton.mp hb]
    intro e
    have e' : a = c0.nm := e
    exact step_new w s (by rw [← e']; exact ha)
theorem find_own {cs : List Ch} (nd : (names cs).Nodup) : ∀ {c : Ch}, c ∈ cs → findC cs c.nm = some c := by
  induction cs with
  | nil => intro c hc; cases hc
  | cons a r ih =>
    intro c hc
    have nd' : (a.nm :: names r).Nodup := nd
    have h2 := List.nodup_cons.mp nd'
    unfold findC
    rw [List.find?_cons]
    by_cases e : a.nm = c.nm
    · rw [decide_eq_true e]
      rcases List.mem_cons.mp hc with h | h
      · rw [h]
      · exact absurd (List.mem_map.mpr ⟨c, h, e.symm⟩) h2.1
    · rw [decide_eq_false e]
      rcases List.mem_cons.mp hc with h | h
      · exact absurd (by rw [h]) e
      · exact ih h2.2 h
theorem knOf_own {ws : List Str} {cs : List Ch} (w : Wr ws cs) {c : Ch} (h : c ∈ cs) : knOf cs c.nm = c.kn := by
  unfold knOf
  rw [find_own (names_nodup w) h]
  rfl
theorem knOf_old {cs : List Ch} {c : Ch} {n : Nm} (h : n ∈ names cs) : knOf (cs ++ [c]) n = knOf cs n := by
  unfold knOf
  rw [knOf_snoc_old h]
theorem step_kn {ws : List Str} {cs : List Ch} {c : Ch} (s : StepOk ws cs c) : ∃ gs : List Nm, (∀ g ∈ gs, g ∈ names cs) ∧ c.kn = srt (want cs gs) ∧ c.base = (c.kn.filter fun n => !decide (n ∈ below cs c.kn)) ∧ c.nm.1 = 1 + maxZ 0 (c.kn.map (·.1)) := by
  obtain ⟨br, hand, gs, deed, _, _, hg, _, e, _⟩ := s.ex
  subst e
  exact ⟨gs, hg, rfl, rfl, rfl⟩
theorem cnt_lt {ws : List Str} {cs : List Ch} (w : Wr ws cs) : ∀ c ∈ cs, ∀ n ∈ c.kn, n.1 < c.nm.1 := by
  induction w with
  | nil => intro c hc; cases hc
  | snoc w s ih =>
    rename_i cs c0
    intro c hc n hn
    rcases List.mem_append.mp hc with h | h
    · exact ih c h n hn
    · rw [List.mem_singleton.mp h] at hn ⊢
      obtain ⟨gs, _, _, _, e⟩ := step_kn s
      have h3 : n.1 ≤ maxZ 0 (c0.kn.map (·.1)) := maxZ_ge (List.mem_map.mpr ⟨n, hn, rfl⟩)
      rw [e]
      omega
theorem mem_want_iff {cs : List Ch} {gs : List Nm} {n : Nm} : n ∈ want cs gs ↔ ∃ g ∈ gs, n ∈ knOf cs g ∨ n = g := by
  unfold want
  rw [mem_gather, List.mem_flatMap]
  constructor
  · rintro ⟨g, h1, h2⟩
    rcases List.mem_append.mp h2 with h | h
    · exact ⟨g, h1, .inl h⟩
    · exact ⟨g, h1, .inr (List.mem_singleton.mp h)⟩
  · rintro ⟨g, h1, h | h⟩
    · exact ⟨g, h1, List.mem_append_left _ h⟩
    · exact ⟨g, h1, by rw [h]; simp⟩
/-- who knows one knows what that one knows -/
theorem kn_trans {ws : List Str} {cs : List Ch} (w : Wr ws cs) : ∀ c ∈ cs, ∀ n ∈ c.kn, ∀ m ∈ knOf cs n, m ∈ c.kn := by
  induction w with
  | nil => intro c hc; cases hc
  | snoc w s ih =>
    rename_i cs c0
    intro c hc n hn m hm
    rcases List.mem_append.mp hc with h | h
    · have hin := kn_sub w c h n hn
      rw [knOf_old hin] at hm
      exact ih c h n hn m hm
    · rw [List.mem_singleton.mp h] at hn ⊢
      obtain ⟨gs, hg, e, _, _⟩ := step_kn s
      rw [e] at hn ⊢
      have hn' := mem_srt.mp hn
      have hin := want_sub w hg hn'
      rw [knOf_old hin] at hm
      obtain ⟨g, h1, h2⟩ := mem_want_iff.mp hn'
      refine mem_srt.mpr (mem_want_iff.mpr ⟨g, h1, .inl ?_⟩)
      rcases h2 with h2 | h2
      · obtain ⟨cg, f1, f2, _⟩ := findC_mem (hg g h1)
        have ek : knOf cs g = cg.kn := by unfold knOf; rw [f1]; rfl
        rw [ek] at h2 ⊢
        exact ih cg f2 n h2 m hm
      · rw [← h2]; exact hm
theorem mem_below {cs : List Ch} {fl : List Nm} {n : Nm} : n ∈ below cs fl ↔ ∃ m ∈ fl, n ∈ knOf cs m := by
  unfold below
  rw [mem_gather, List.mem_flatMap]
/-- all that is known is of the base, or known to one of it -/
theorem base_gen {ws : List Str} {cs : List Ch} (w : Wr ws cs) : ∀ c ∈ cs, ∀ n ∈ c.kn, ∃ b ∈ c.base, n = b ∨ n ∈ knOf cs b := by
  induction w with
  | nil => intro c hc; cases hc
  | snoc w s ih =>
    rename_i cs c0
    intro c hc n hn
    rcases List.mem_append.mp hc with h | h
    · obtain ⟨b, hb, h2⟩ := ih c h n hn
      refine ⟨b, hb, h2.imp id fun z => ?_⟩
      by_cases hbn : b ∈ names cs
      · rw [knOf_old hbn]; exact z
      · have : knOf cs b = [] := by
          unfold knOf
          have : findC cs b = none := by
            unfold findC
            rw [List.find?_eq_none]
            intro x hx hd
            exact hbn (List.mem_map.mpr ⟨x, hx, of_decide_eq_true hd⟩)
          rw [this]
          rfl
        rw [this] at z
        cases z
    · rw [List.mem_singleton.mp h] at hn ⊢
      obtain ⟨gs, hg, e, eb, _⟩ := step_kn s
      have kin : ∀ n ∈ c0.kn, n ∈ names cs := fun n hn => by rw [e] at hn; exact want_sub w hg (mem_srt.mp hn)
      have tr : ∀ a ∈ names cs, ∀ x ∈ knOf cs a, ∀ y ∈ knOf cs x, y ∈ knOf cs a := fun a ha x hx y hy => by
        obtain ⟨ca, f1, f2, _⟩ := findC_mem ha
        have ek : knOf cs a = ca.kn := by unfold knOf; rw [f1]; rfl
        rw [ek] at hx ⊢
        exact kn_trans w ca f2 x hx y hy
      have up : ∀ a ∈ names cs, ∀ x ∈ knOf cs a, x.1 < a.1 := fun a ha x hx => by
        obtain ⟨ca, f1, f2, f3⟩ := findC_mem ha
        have ek : knOf cs a = ca.kn := by unfold knOf; rw [f1]; rfl
        rw [ek] at hx
        rw [← f3]
        exact cnt_lt w ca f2 x hx
      have go : ∀ (k : Nat) (n : Nm), n ∈ c0.kn → (cs.length : Int) - n.1 ≤ k → ∃ b ∈ c0.base, n = b ∨ n ∈ knOf cs b := by
        intro k
        induction k with
        | zero =>
          intro n hn hk
          by_cases hb : n ∈ below cs c0.kn
          · obtain ⟨m, hm, hnm⟩ := mem_below.mp hb
            have h1 := up m (kin m hm) n hnm
            have h2 := (cnt_le w m (kin m hm)).2
            omega
          · exact ⟨n, by rw [eb, List.mem_filter]; exact ⟨hn, by simp [hb]⟩, .inl rfl⟩
        | succ k ihk =>
          intro n hn hk
          by_cases hb : n ∈ below cs c0.kn
          · obtain ⟨m, hm, hnm⟩ := mem_below.mp hb
            have h1 := up m (kin m hm) n hnm
            obtain ⟨b, hbb, h2⟩ := ihk m hm (by omega)
            refine ⟨b, hbb, .inr ?_⟩
            have bin : b ∈ names cs := kin b (by rw [eb, List.mem_filter] at hbb; exact hbb.1)
            rcases h2 with h2 | h2
            · rw [← h2]; exact hnm
            · exact tr b bin m h2 n hnm
          · exact ⟨n, by rw [eb, List.mem_filter]; exact ⟨hn, by simp [hb]⟩, .inl rfl⟩
      have h0 := (cnt_le w n (kin n hn)).1
      obtain ⟨b, hb, h2⟩ := go cs.length n hn (by omega)
      have bin : b ∈ names cs := kin b (by rw [eb, List.mem_filter] at hb; exact hb.1)
      exact ⟨b, hb, by rw [knOf_old bin]; exact h2⟩
theorem base_sub {ws : List Str} {cs : List Ch} (w : Wr ws cs) : ∀ c ∈ cs, ∀ b ∈ c.base, b ∈ c.kn := by
  induction w with
  | nil => intro c hc; cases hc
  | snoc w s ih =>
    intro c hc b hb
    rcases List.mem_append.mp hc with h | h
    · exact ih c h b hb
    · rw [List.mem_singleton.mp h] at hb ⊢
      obtain ⟨_, _, _, eb, _⟩ := step_kn s
      rw [eb, List.mem_filter] at hb
      exact hb.1
/-! ### names in their order -/
theorem leN_total (a b : Nm) : (leN a b || leN b a) = true := by
  rw [leN_eq, leN_eq]
  by_cases h : a.1 = b.1
  · rw [if_pos h, if_pos h.symm, lexLe_eq, lexLe_eq]
    by_cases h2 : b.2.cps.toList < a.2.cps.toList
    · have : ¬ a.2.cps.toList < b.2.cps.toList := fun z => List.lt_irrefl _ (List.lt_trans z h2)
      simp [this]
    · simp [h2]
  · rw [if_neg h, if_neg (fun z => h z.symm)]
    simp
    omega
theorem lexLe_trans : ∀ {a b c : List Nat}, lexLe a b = true → lexLe b c = true → lexLe a c = true
  | [], _, _, _, _ => by simp [lexLe]
  | x :: a, [], _, h, _ => by simp [lexLe] at h
  | x :: a, y :: b, [], _, h => by simp [lexLe] at h
  | x :: a, y :: b, z :: c, h1, h2 => by
    unfold lexLe at h1 h2 ⊢
    by_cases e1 : x = y
    · subst e1
      rw [if_pos rfl] at h1
      by_cases e2 : x = z
      · subst e2
        rw [if_pos rfl] at h2 ⊢
        exact lexLe_trans h1 h2
      · rw [if_neg e2] at h2 ⊢
        exact h2
    · rw [if_neg e1] at h1
      have h1' := of_decide_eq_true h1
      by_cases e2 : y = z
      · subst e2
        rw [if_neg e1]
        exact h1
      · rw [if_neg e2] at h2
        have h2' := of_decide_eq_true h2
        rw [if_neg (by omega)]
        exact decide_eq_true (by omega)
theorem leN_trans {a b c : Nm} (h1 : leN a b = true) (h2 : leN b c = true) : leN a c = true := by
  rw [leN_eq] at h1 h2 ⊢
  by_cases e1 : a.1 = b.1
  · rw [if_pos e1] at h1
    by_cases e2 : b.1 = c.1
    · rw [if_pos e2] at h2
      rw [if_pos (e1.trans e2)]
      exact lexLe_trans h1 h2
    · rw [if_neg e2] at h2
      rw [if_neg (by omega), e1]
      exact h2
  · rw [if_neg e1] at h1
    have h1' := of_decide_eq_true h1
    by_cases e2 : b.1 = c.1
    · rw [if_neg (by omega)]
      exact decide_eq_true (by omega)
    · rw [if_neg e2] at h2
      have h2' := of_decide_eq_true h2
      rw [if_neg (by omega)]
      exact decide_eq_true (by omega)
theorem srt_sorted (ns : List Nm) : (srt ns).Pairwise fun a b => leN a b = true := by
  have h := List.pairwise_mergeSort (le := PySem.W.dataLe false nmD) (fun a b c h1 h2 => leN_trans (a := a) (b := b) (c := c) h1 h2) (fun a b => leN_total a b) ns
  exact h
end Mw

namespace Mw
open PySem PySem.Spec PyProof.Rows L2
section
variable {X : Cx}
/-! ### a name in a tuple of names -/
def rInT (K : PySem.W.Frag) : R2 := fun x y H Q => ∃ d ds, Dp K H x d ∧ Dp K H y (.tuple ds) ∧ SeqAt.shaped d = true ∧ SeqAt.shaped (.tuple ds) = true ∧ Q (.bl (ds.any fun z => PyData.eqv z d)) H
def rNotInT (K : PySem.W.Frag) : R2 := fun x y H Q => ∃ d ds, Dp K H x d ∧ Dp K H y (.tuple ds) ∧ SeqAt.shaped d = true ∧ SeqAt.shaped (.tuple ds) = true ∧ Q (.bl (!ds.any fun z => PyData.eqv z d)) H
theorem op_inT (hu : X.A.units + 66 < cLine) : OpR X (compareOp .In) (rInT X.K) := by
  intro pins s σ H x y v u Q I rx ry h
  obtain ⟨d, ds, hd, he, sd, se, q⟩ := h
  obtain ⟨as, r1⟩ := Dp.reads I d x v hd rx
  obtain ⟨bs, r2⟩ := Dp.reads I (.tuple ds) y u he ry
  have hd64 : d.depth ≤ 64 := of_decide_eq_true (Bool.and_eq_true_iff.mp (show (d.canLay0 && decide (d.depth ≤ 64)) = true from sd)).2
  have hl : PyData.canLayAll0 ds = true := by simpa only [PyData.canLay0] using SeqAt.canLay_of_shaped se
  exact SeqAt.in_tuple_reads r2 r1 hl (SeqAt.canLay_of_shaped sd) (by omega) ⟨.bl _, H, I, rfl, q⟩
theorem op_notInT (hu : X.A.units + 66 < cLine) : OpR X (compareOp .NotIn) (rNotInT X.K) := by
  intro pins s σ H x y v u Q I rx ry h
  obtain ⟨d, ds, hd, he, sd, se, q⟩ := h
  obtain ⟨as, r1⟩ := Dp.reads I d x v hd rx
  obtain ⟨bs, r2⟩ := Dp.reads I (.tuple ds) y u he ry
  have hd64 : d.depth ≤ 64 := of_decide_eq_true (Bool.and_eq_true_iff.mp (show (d.canLay0 && decide (d.depth ≤ 64)) = true from sd)).2
  have hl : PyData.canLayAll0 ds = true := by simpa only [PyData.canLay0] using SeqAt.canLay_of_shaped se
  exact SeqAt.notIn_tuple_reads r2 r1 hl (SeqAt.canLay_of_shaped sd) (by omega) ⟨.bl _, H, I, rfl, q⟩
theorem r66 {k : Nat} {A : Around} (r : Room k A) : A.units + 66 < cLine := by have := r.un; omega
end
/-! ### a call of a def of one's own that shows things -/
section
variable {X : Cx} {k : Nat} {f : Addr} {fd : FuncData} {ps : List Str} {sp : Sp} {x : Str} {p pos : Pos} {e : Expr} {es : List Expr} {t : TA} {dvs : List V} {ds : List Value} {E : XK}
theorem pe_callG (F : FnG X.prog X.w X.K X.mg X.base k f fd ps sp) (hr : Room k X.A) (gu : X.A.guards = some []) (hg : Gl X x) (hm : X.mg x = some (.ref f)) (hk : PySem.W.keepIn X.K (.ref f) = true) (hb : Binds X.K fd ps ds) (hd : Vals dvs ds) (hx : Passes CX0 X E)
    (ha : PA X (e :: es) t) (hdb : (x == ("__debug__" : Str)) = false := by decide) (he : starEach (e :: es) X.env = (false, eval e X.env) :: starEach es X.env := by rfl) (hpl : (backTo pos (starEach es X.env)).any (·.1) = false := by rfl) :
    PE X (.Call (.Name x p) (e :: es) [] pos) (tCall sp dvs E t) := by
  refine ⟨fun pins s σ H Q I h => wpAny_Call_Name_kw (ld_glob I hg hm ?_ hdb)⟩
  refine PySem.W.callWith_K (h₀ := X.base) I.ok.mod.kin hk (thn (ha.run pos pins s σ H _ I h) fun us s1 ⟨vs, H1, I1, r, q⟩ => ⟨I1.kIn, ?_⟩) he hpl
  have r2 : Vals (vs ++ dvs) (us ++ ds) := r.append hd
  have hl : (us ++ ds).length = ps.length := r2.length.symm.trans (F.len _ _ _ _ q)
  refine wpAny_call (codeAny_mono (F.run X.A X.stack s1 H1 ⟨us, []⟩ _ _ Q E hr gu I1.env0 (hb s1 us I1.kIn hl) r2 q) fun res s2 hq => ?_)
  match res, hq with
  | .error er, hq => exact hx pins σ H1 s1 er s2 I1 hq
  | .ok (.ret u), hq => exact I1.after hq
  | .ok .next, hq => exact hq.elim
  | .ok .brk, hq => exact hq.elim
  | .ok .cont, hq => exact hq.elim
end
end Mw

/-! Aw1: an abstract machine above the hand layer: data as plain trees, mutable things as numbered cells, no addresses. -/
namespace Aw
open PySem PySem.Spec PyProof.Rows L2 Mw
abbrev D := PyData
/-- the tables of code objects; the tuples of the text that are constants -/
structure Fx where
  tb : List Addr
  ct : List (Addr × List V)
/-- a value: plain data that never changes, or a cell -/
inductive W where
  | d (x : PyData)
  | ref (i : Nat)
  /-- the script -/
  | scr (ns : List Int)
inductive Cell where
  | lst (ws : List W)
  | dct (t : Bool) (kvs : List (PyData × W))
  /-- a dict that is walked: read, not written -/
  | lck (t : Bool) (kvs : List (PyData × W))
abbrev Sto := List Cell
abbrev Ev := List (Option W)
def kD : Key → PyData
  | .inl i => .int i
  | .inr x => .str x
def kT (ks : List Key) : PyData := .tuple (ks.map kD)
/-- a list of the text, or one that is no cell -/
def SqS (K : PySem.W.Frag) (ρ : List Addr) (H : Hp) (a : Addr) (xs : List V) : Prop := SqL K H a xs ∧ (a ∈ ρ → ∀ H', SqL K H' a xs)
/-- a list that is no cell -/
def SqO (ρ : List Addr) (H : Hp) (a : Addr) (xs : List V) : Prop := a ∉ ρ ∧ Rd H a (.lst xs)
mutual
/-- v stands for the data d, none of whose lists and dicts is a cell -/
inductive Rp (K : PySem.W.Frag) (ρ : List Addr) (H : Hp) : V → PyData → Prop
  | non : Rp K ρ H .non .none
  | bl (b : Bool) : Rp K ρ H (.bl b) (.bool b)
  | int (i : Int) : Rp K ρ H (.int i) (.int i)
  | str (x : Str) : Rp K ρ H (.str x) (.str x)
  | lst {a : Addr} {xs : List V} {ds : List PyData} : SqO ρ H a xs → RpAll K ρ H xs ds → Rp K ρ H (.ref a) (.list ds)
  | tup {a : Addr} {xs : List V} {ds : List PyData} : H a = some (.tup xs) → RpAll K ρ H xs ds → Rp K ρ H (.ref a) (.tuple ds)
  | dK {a : Addr} {hk : List (Key × V)} {ds : List (PyData × PyData)} : a ∉ ρ → Rd H a (.dK hk) → RpPs K ρ H (hk.map fun p => (kD p.1, p.2)) ds → Rp K ρ H (.ref a) (.dict ds)
  | dT {a : Addr} {hk : List (List Key × V)} {ds : List (PyData × PyData)} : a ∉ ρ → Rd H a (.dT hk) → RpPs K ρ H (hk.map fun p => (kT p.1, p.2)) ds → Rp K ρ H (.ref a) (.dict ds)
inductive RpAll (K : PySem.W.Frag) (ρ : List Addr) (H : Hp) : List V → List PyData → Prop
  | nil : RpAll K ρ H [] []
  | cons {v : V} {vs : List V} {d : PyData} {ds : List PyData} : Rp K ρ H v d → RpAll K ρ H vs ds → RpAll K ρ H (v :: vs) (d :: ds)
inductive RpPs (K : PySem.W.Frag) (ρ : List Addr) (H : Hp) : List (PyData × V) → List (PyData × PyData) → Prop
  | nil : RpPs K ρ H [] []
  | cons {k : PyData} {v : V} {d : PyData} {ps : List (PyData × V)} {ds : List (PyData × PyData)} : Rp K ρ H v d → RpPs K ρ H ps ds → RpPs K ρ H ((k, v) :: ps) ((k, d) :: ds)
end
def WR (K : PySem.W.Frag) (ρ : List Addr) (H : Hp) (v : V) : W → Prop
  | .d x => Rp K ρ H v x
  | .ref i => ∃ a, ρ[i]? = some a ∧ v = .ref a
  | .scr ns => ∃ a, v = .ref a ∧ SqS K ρ H a (ns.map V.int)
abbrev WRs (K : PySem.W.Frag) (ρ : List Addr) (H : Hp) : List V → List W → Prop := Paired (WR K ρ H)
def PRs (K : PySem.W.Frag) (ρ : List Addr) (H : Hp) : List (PyData × V) → List (PyData × W) → Prop := Paired fun p q => p.1 = q.1 ∧ WR K ρ H p.2 q.2
/-- a cell at an address -/
def CR (K : PySem.W.Frag) (ρ : List Addr) (H : Hp) (a : Addr) : Cell → Prop
  | .lst ws => ∃ xs, H a = some (.lst xs) ∧ WRs K ρ H xs ws
  | .dct false kvs => ∃ hk, H a = some (.dK hk) ∧ PRs K ρ H (hk.map fun p => (kD p.1, p.2)) kvs
  | .dct true kvs => ∃ hk, H a = some (.dT hk) ∧ PRs K ρ H (hk.map fun p => (kT p.1, p.2)) kvs
  | .lck false kvs => ∃ hk, (∃ o, H a = some (.frz o (.dK hk))) ∧ PRs K ρ H (hk.map fun p => (kD p.1, p.2)) kvs
  | .lck true kvs => ∃ hk, (∃ o, H a = some (.frz o (.dT hk))) ∧ PRs K ρ H (hk.map fun p => (kT p.1, p.2)) kvs
structure Rel (K : PySem.W.Frag) (T : Fx) (ρ : List Addr) (σ : Sto) (H : Hp) : Prop where
  len : σ.length = ρ.length
  nd : ρ.Nodup
  cell : ∀ (i : Nat) (a : Addr) (c : Cell), ρ[i]? = some a → σ[i]? = some c → CR K ρ H a c
  tb : Tb T.tb H
  ct : ∀ p ∈ T.ct, H p.1 = some (.tup p.2)
/-- how the heap may go on: the cells may change, new ones come, tables grow, all else stays -/
structure Go0 (T : Fx) (ρ : List Addr) (H : Hp) (ρ' : List Addr) (H' : Hp) : Prop where
  pre : ρ <+: ρ'
  new : ∀ b ∈ ρ', b ∈ ρ ∨ H b = none
  keep : ∀ b o, H b = some o → b ∉ ρ → b ∉ T.tb → H' b = some o ∨ (Mut (some o) ∧ ∃ od, H' b = some (.frz od o))
  th : ∀ b, H' b = none → H b = none
  lk0 : ∀ b o u, H b = some (.frz o u) → b ∉ ρ → H' b = some (.frz o u)
/-- .. and what is locked stays so -/
structure Go (T : Fx) (ρ : List Addr) (H : Hp) (ρ' : List Addr) (H' : Hp) : Prop extends Go0 T ρ H ρ' H' where
  lk : ∀ b o u, H b = some (.frz o u) → H' b = some (.frz o u)
section
variable {K : PySem.W.Frag} {T : Fx} {ρ ρ' ρ'' : List Addr} {H H' H'' : Hp} {σ σ' : Sto}
theorem Go.mk' (pre : ρ <+: ρ') (new : ∀ b ∈ ρ', b ∈ ρ ∨ H b = none) (keep : ∀ b o, H b = some o → b ∉ ρ → b ∉ T.tb → H' b = some o ∨ (Mut (some o) ∧ ∃ od, H' b = some (.frz od o))) (th : ∀ b, H' b = none → H b = none) (lk : ∀ b o u, H b = some (.frz o u) → H' b = some (.frz o u)) : Go T ρ H ρ' H' :=
  { pre := pre, new := new, keep := keep, th := th, lk0 := fun b o u e _ => lk b o u e, lk := lk }
theorem Go.refl : Go T ρ H ρ H := .mk' (List.prefix_refl _) (fun _ h => .inl h) (fun _ _ e _ _ => .inl e) (fun _ h => h) fun _ _ _ e => e
theorem Go.trans (a : Go T ρ H ρ' H') (b : Go T ρ' H' ρ'' H'') : Go T ρ H ρ'' H'' :=
  .mk' (a.pre.trans b.pre) (fun c hc => (b.new c hc).elim (fun h => a.new c h) fun h => .inr (a.th c h))
    (fun c o e n1 n2 => (a.keep c o e n1 n2).elim (fun e1 => b.keep c o e1 (fun h => (a.new c h).elim n1 fun z => by rw [e] at z; cases z) n2) (fun ⟨m, od, e1⟩ => .inr ⟨m, od, b.lk _ _ _ e1⟩))
    (fun c h => a.th c (b.th c h)) fun c o u e => b.lk _ _ _ (a.lk _ _ _ e)
/-- a new thing that is no cell -/
theorem Go.lay {p : Addr} {o : HO} (n : H p = none) : Go T ρ H ρ (upd H p o) :=
  .mk' (List.prefix_refl _) (fun _ h => .inl h) (fun b u e _ _ => .inl (by rw [upd_ne (ne_of_none e n)]; exact e)) (fun b h => by
    by_cases e : b = p
    · subst e; exact n
    · rwa [upd_ne e] at h) fun b o u e => by rw [upd_ne (ne_of_none e n)]; exact e
theorem Go.cell {p : Addr} {o : HO} (n : H p = none) : Go T ρ H (ρ ++ [p]) (upd H p o) :=
  .mk' (List.prefix_append _ _) (fun b h => (List.mem_append.mp h).elim .inl fun h => .inr (by rw [List.mem_singleton.mp h]; exact n)) (fun b u e _ _ => .inl (by rw [upd_ne (ne_of_none e n)]; exact e)) (fun b h => by
    by_cases e : b = p
    · subst e; exact n
    · rwa [upd_ne e] at h) fun b o u e => by rw [upd_ne (ne_of_none e n)]; exact e
theorem Go0.put {a : Addr} {o u : HO} (h : a ∈ ρ) (e : H a = some u) : Go0 T ρ H ρ (upd H a o) :=
  ⟨List.prefix_refl _, fun _ h => .inl h, fun b z eb n _ => .inl (by rw [upd_ne (fun (q : b = a) => n (by rw [q]; exact h))]; exact eb), fun b hb => by
    by_cases q : b = a
    · subst q; rw [upd_same] at hb; cases hb
    · rwa [upd_ne q] at hb, fun b o' x eb n => by rw [upd_ne (fun (q : b = a) => n (by rw [q]; exact h))]; exact eb⟩
theorem Go.put {a : Addr} {o u : HO} (h : a ∈ ρ) (e : H a = some u) (nf : Mut (some u) := by exact True.intro) : Go T ρ H ρ (upd H a o) :=
  ⟨Go0.put h e, fun b o' x eb => by
    have q : b ≠ a := fun q => by subst q; rw [e] at eb; cases eb; exact nf
    rw [upd_ne q]; exact eb⟩
/-- a thing that is no cell is locked -/
theorem Go.lockD {a : Addr} {u : HO} {od : Obj} (h : a ∉ ρ) (e : H a = some u) (mu : Mut (some u)) : Go T ρ H ρ (upd H a (.frz od u)) :=
  .mk' (List.prefix_refl _) (fun _ h => .inl h) (fun b z eb n _ => by
    by_cases q : b = a
    · subst q; rw [e] at eb; cases eb; exact .inr ⟨mu, od, upd_same⟩
    · exact .inl (by rw [upd_ne q]; exact eb)) (fun b hb => by
    by_cases q : b = a
    · subst q; rw [upd_same] at hb; cases hb
    · rwa [upd_ne q] at hb) fun b o' x eb => by
    have q : b ≠ a := fun q => by subst q; rw [e] at eb; cases eb; exact mu
    rw [upd_ne q]; exact eb
theorem Go.grw (t : Tb T.tb H) (g : Grw T.tb H H') : Go T ρ H ρ H' :=
  .mk' (List.prefix_refl _) (fun _ h => .inl h) (fun b o e _ n => .inl (by rw [g.2 b n]; exact e)) (fun b h => g.none h) fun b o u e => by
    rw [g.2 b fun z => by
      obtain ⟨ps, h1, _⟩ := t b z
      rw [h1] at e; cases e]
    exact e
theorem Go0.rd (t : Tb T.tb H) (g : Go0 T ρ H ρ' H') {a : Addr} {u : HO} (n : a ∉ ρ) (r : Rd H a u) (hu : ∀ ps, u ≠ .tbl ps) : a ∉ ρ' ∧ Rd H' a u := by
  have nt : a ∉ T.tb := fun h => by
    obtain ⟨ps, h1, _⟩ := t a h
    rcases r with r | ⟨o, r⟩
    · rw [h1] at r; exact hu ps (Option.some.inj r).symm
    · rw [h1] at r; cases r
  constructor
  · intro h
    rcases g.new a h with z | z
    · exact n z
    · rcases r with r | ⟨o, r⟩ <;> (rw [z] at r; cases r)
  · rcases r with r | ⟨o, r⟩
    · rcases g.keep _ _ r n nt with q | ⟨_, q⟩
      · exact .inl q
      · exact .inr q
    · exact .inr ⟨o, g.lk0 _ _ _ r n⟩
theorem Rel.noTup (r : Rel K T ρ σ H) {a : Addr} (h : a ∈ ρ) : ∀ xs, ¬ Rd H a (.tup xs) := fun xs q => by
  obtain ⟨i, hi⟩ := List.getElem?_of_mem h
  have hl : i < σ.length := by rw [r.len]; exact (List.getElem?_eq_some_iff.mp hi).1
  have hc := r.cell i a σ[i] hi (List.getElem?_eq_getElem hl)
  cases h1 : σ[i] with
  | lst ws =>
    rw [h1] at hc
    obtain ⟨xs, e, _⟩ := hc
    rcases q with q | ⟨o, q⟩ <;> (rw [e] at q; cases q)
  | dct t kvs =>
    rw [h1] at hc
    cases t <;> (obtain ⟨xs, e, _⟩ := hc; rcases q with q | ⟨o, q⟩ <;> (rw [e] at q; cases q))
  | lck t kvs =>
    rw [h1] at hc
    cases t <;> (obtain ⟨xs, ⟨_, e⟩, _⟩ := hc; rcases q with q | ⟨o, q⟩ <;> (rw [e] at q; cases q))
theorem Go0.tup (r : Rel K T ρ σ H) (g : Go0 T ρ H ρ' H') {a : Addr} {xs : List V} (h : H a = some (.tup xs)) : H' a = some (.tup xs) := by
  rcases g.keep _ _ h (fun z => r.noTup z xs (.inl h)) (fun z => by
    obtain ⟨ps, h1, _⟩ := r.tb a z
    rw [h] at h1
    cases h1) with q | ⟨m, _⟩
  · exact q
  · exact m.elim
theorem Go0.sqO (r : Rel K T ρ σ H) (g : Go0 T ρ H ρ' H') {a : Addr} {xs : List V} (h : SqO ρ H a xs) : SqO ρ' H' a xs := g.rd r.tb h.1 h.2 (fun ps z => by cases z)
theorem Go0.sqS (r : Rel K T ρ σ H) (g : Go0 T ρ H ρ' H') {a : Addr} {xs : List V} (h : SqS K ρ H a xs) : SqS K ρ' H' a xs := by
  obtain ⟨h1, h2⟩ := h
  by_cases ha : a ∈ ρ
  · exact ⟨h2 ha H', fun _ => h2 ha⟩
  · rcases h1 with h1 | h1
    · obtain ⟨q1, q2⟩ := g.rd r.tb ha h1 (fun ps z => by cases z)
      exact ⟨.inl q2, fun z => absurd z q1⟩
    · exact ⟨.inr h1, fun _ _ => .inr h1⟩
mutual
theorem Go0.rp (r : Rel K T ρ σ H) (g : Go0 T ρ H ρ' H') : ∀ {d : PyData} {v : V}, Rp K ρ H v d → Rp K ρ' H' v d
  | _, _, .non => .non
  | _, _, .bl b => .bl b
  | _, _, .int i => .int i
  | _, _, .str x => .str x
  | _, _, .lst h a => .lst (g.sqO r h) (Go0.rpAll r g a)
  | _, _, .tup h a => .tup (g.tup r h) (Go0.rpAll r g a)
  | _, _, .dK n h a => .dK (g.rd r.tb n h (fun ps z => by cases z)).1 (g.rd r.tb n h (fun ps z => by cases z)).2 (Go0.rpPs r g a)
  | _, _, .dT n h a => .dT (g.rd r.tb n h (fun ps z => by cases z)).1 (g.rd r.tb n h (fun ps z => by cases z)).2 (Go0.rpPs r g a)
theorem Go0.rpAll (r : Rel K T ρ σ H) (g : Go0 T ρ H ρ' H') : ∀ {ds : List PyData} {vs : List V}, RpAll K ρ H vs ds → RpAll K ρ' H' vs ds
  | _, _, .nil => .nil
  | _, _, .cons h t => .cons (Go0.rp r g h) (Go0.rpAll r g t)
theorem Go0.rpPs (r : Rel K T ρ σ H) (g : Go0 T ρ H ρ' H') : ∀ {ds : List (PyData × PyData)} {vs : List (PyData × V)}, RpPs K ρ H vs ds → RpPs K ρ' H' vs ds
  | _, _, .nil => .nil
  | _, _, .cons h t => .cons (Go0.rp r g h) (Go0.rpPs r g t)
end
theorem Go0.at_ (g : Go0 T ρ H ρ' H') {i : Nat} {a : Addr} (h : ρ[i]? = some a) : ρ'[i]? = some a := by
  obtain ⟨t, rfl⟩ := g.pre
  rw [List.getElem?_append_left (List.getElem?_eq_some_iff.mp h).1]
  exact h
theorem Go0.wr (r : Rel K T ρ σ H) (g : Go0 T ρ H ρ' H') {v : V} : ∀ {w : W}, WR K ρ H v w → WR K ρ' H' v w
  | .d x, h => Go0.rp r g h
  | .ref i, ⟨a, h, e⟩ => ⟨a, g.at_ h, e⟩
  | .scr ns, ⟨a, e, h⟩ => ⟨a, e, g.sqS r h⟩
theorem Paired.imp {α β : Type} {R S : α → β → Prop} : ∀ {l : List α} {m : List β}, Paired R l m → (∀ a b, R a b → S a b) → Paired S l m := fun h f => Paired.mapP h f
theorem Go0.wrs (r : Rel K T ρ σ H) (g : Go0 T ρ H ρ' H') {vs : List V} {ws : List W} (h : WRs K ρ H vs ws) : WRs K ρ' H' vs ws := Paired.mapP h fun _ _ q => Go0.wr r g q
theorem Go0.prs (r : Rel K T ρ σ H) (g : Go0 T ρ H ρ' H') {vs : List (PyData × V)} {ws : List (PyData × W)} (h : PRs K ρ H vs ws) : PRs K ρ' H' vs ws := Paired.mapP h fun _ _ q => ⟨q.1, Go0.wr r g q.2⟩
theorem Go.rd (t : Tb T.tb H) (g : Go T ρ H ρ' H') {a : Addr} {u : HO} (n : a ∉ ρ) (r : Rd H a u) (hu : ∀ ps, u ≠ .tbl ps) : a ∉ ρ' ∧ Rd H' a u := g.toGo0.rd t n r hu
theorem Go.tup (r : Rel K T ρ σ H) (g : Go T ρ H ρ' H') {a : Addr} {xs : List V} (h : H a = some (.tup xs)) : H' a = some (.tup xs) := g.toGo0.tup r h
theorem Go.sqO (r : Rel K T ρ σ H) (g : Go T ρ H ρ' H') {a : Addr} {xs : List V} (h : SqO ρ H a xs) : SqO ρ' H' a xs := g.toGo0.sqO r h
theorem Go.sqS (r : Rel K T ρ σ H) (g : Go T ρ H ρ' H') {a : Addr} {xs : List V} (h : SqS K ρ H a xs) : SqS K ρ' H' a xs := g.toGo0.sqS r h
theorem Go.rp (r : Rel K T ρ σ H) (g : Go T ρ H ρ' H') {d : PyData} {v : V} (h : Rp K ρ H v d) : Rp K ρ' H' v d := g.toGo0.rp r h
theorem Go.rpAll (r : Rel K T ρ σ H) (g : Go T ρ H ρ' H') {ds : List PyData} {vs : List V} (h : RpAll K ρ H vs ds) : RpAll K ρ' H' vs ds := g.toGo0.rpAll r h
theorem Go.rpPs (r : Rel K T ρ σ H) (g : Go T ρ H ρ' H') {ds : List (PyData × PyData)} {vs : List (PyData × V)} (h : RpPs K ρ H vs ds) : RpPs K ρ' H' vs ds := g.toGo0.rpPs r h
theorem Go.at_ (g : Go T ρ H ρ' H') {i : Nat} {a : Addr} (h : ρ[i]? = some a) : ρ'[i]? = some a := g.toGo0.at_ h
theorem Go.wr (r : Rel K T ρ σ H) (g : Go T ρ H ρ' H') {v : V} {w : W} (h : WR K ρ H v w) : WR K ρ' H' v w := g.toGo0.wr r h
theorem Go.wrs (r : Rel K T ρ σ H) (g : Go T ρ H ρ' H') {vs : List V} {ws : List W} (h : WRs K ρ H vs ws) : WRs K ρ' H' vs ws := g.toGo0.wrs r h
theorem Go.prs (r : Rel K T ρ σ H) (g : Go T ρ H ρ' H') {vs : List (PyData × V)} {ws : List (PyData × W)} (h : PRs K ρ H vs ws) : PRs K ρ' H' vs ws := g.toGo0.prs r h
/-- the slots -/
def OR (K : PySem.W.Frag) (ρ : List Addr) (H : Hp) : Option V → Option W → Prop
  | some v, some w => WR K ρ H v w
  | none, some _ => False
  | _, none => True
abbrev ER (K : PySem.W.Frag) (ρ : List Addr) (H : Hp) : List (Option V) → Ev → Prop := Paired (OR K ρ H)
theorem Go.er (r : Rel K T ρ σ H) (g : Go T ρ H ρ' H') {s : List (Option V)} {e : Ev} (h : ER K ρ H s e) : ER K ρ' H' s e := Paired.mapP h fun a b q => by
  cases a with
  | none => cases b with
    | none => exact q
    | some w => exact q
  | some v => cases b with
    | none => exact q
    | some w => exact Go.wr r g (w := w) q
/-- a cell that did not change -/
theorem CR.go (r : Rel K T ρ σ H) (g : Go0 T ρ H ρ' H') {a : Addr} (e : H' a = H a) : ∀ {c : Cell}, CR K ρ H a c → CR K ρ' H' a c
  | .lst ws, ⟨xs, h, q⟩ => ⟨xs, by rw [e]; exact h, g.wrs r q⟩
  | .dct false kvs, ⟨hk, h, q⟩ => ⟨hk, by rw [e]; exact h, g.prs r q⟩
  | .dct true kvs, ⟨hk, h, q⟩ => ⟨hk, by rw [e]; exact h, g.prs r q⟩
  | .lck false kvs, ⟨hk, h, q⟩ => ⟨hk, by rw [e]; exact h, g.prs r q⟩
  | .lck true kvs, ⟨hk, h, q⟩ => ⟨hk, by rw [e]; exact h, g.prs r q⟩
theorem CR.some {a : Addr} : ∀ {c : Cell}, CR K ρ H a c → ∃ o, H a = some o ∧ ∀ ps, o ≠ .tbl ps
  | .lst ws, ⟨xs, h, q⟩ => ⟨_, h, fun ps z => by cases z⟩
  | .dct false kvs, ⟨hk, h, q⟩ => ⟨_, h, fun ps z => by cases z⟩
  | .dct true kvs, ⟨hk, h, q⟩ => ⟨_, h, fun ps z => by cases z⟩
  | .lck false kvs, ⟨hk, ⟨o, h⟩, q⟩ => ⟨_, h, fun ps z => by cases z⟩
  | .lck true kvs, ⟨hk, ⟨o, h⟩, q⟩ => ⟨_, h, fun ps z => by cases z⟩
theorem Rel.at_ (r : Rel K T ρ σ H) {i : Nat} {c : Cell} (h : σ[i]? = some c) : ∃ a, ρ[i]? = some a ∧ CR K ρ H a c := by
  have hl : i < ρ.length := by rw [← r.len]; exact (List.getElem?_eq_some_iff.mp h).1
  exact ⟨ρ[i], List.getElem?_eq_getElem hl, r.cell i _ c (List.getElem?_eq_getElem hl) h⟩
theorem Rel.has (r : Rel K T ρ σ H) {a : Addr} (h : a ∈ ρ) : ∃ o, H a = some o ∧ ∀ ps, o ≠ .tbl ps := by
  obtain ⟨i, hi⟩ := List.getElem?_of_mem h
  have hl : i < σ.length := by rw [r.len]; exact (List.getElem?_eq_some_iff.mp hi).1
  exact (r.cell i a σ[i] hi (List.getElem?_eq_getElem hl)).some
/-- the heap goes on and no cell changes -/
theorem Rel.go (r : Rel K T ρ σ H) (g : Go0 T ρ H ρ H') (t : Tb T.tb H') (e : ∀ a ∈ ρ, H' a = H a) : Rel K T ρ σ H' :=
  ⟨r.len, r.nd, fun i a c h1 h2 => (r.cell i a c h1 h2).go r g (e a (List.mem_of_getElem? h1)), t, fun p hp => g.tup r (r.ct p hp)⟩
theorem Rel.lay (r : Rel K T ρ σ H) {p : Addr} {o : HO} (n : H p = none) : Rel K T ρ σ (upd H p o) :=
  r.go (Go.lay n).toGo0 (r.tb.new n) fun a ha => by
    obtain ⟨u, hu, _⟩ := r.has ha
    rw [upd_ne (ne_of_none hu n)]
theorem Rel.grw (r : Rel K T ρ σ H) (g : Grw T.tb H H') : Rel K T ρ σ H' :=
  r.go (Go.grw r.tb g).toGo0 g.1 fun a ha => by
    refine g.2 a fun z => ?_
    obtain ⟨u, hu, nu⟩ := r.has ha
    obtain ⟨ps, h1, _⟩ := r.tb a z
    rw [hu] at h1
    exact nu ps (Option.some.inj h1)
/-- a thing that is no cell is locked -/
theorem Rel.lockD (r : Rel K T ρ σ H) {a : Addr} {u : HO} {od : Obj} (h : a ∉ ρ) (e : H a = some u) (nt : ∀ ps, u ≠ .tbl ps) (mu : Mut (some u) := by exact True.intro) : Rel K T ρ σ (upd H a (.frz od u)) :=
  r.go (Go.lockD h e mu).toGo0 (r.tb.over e nt) fun b hb => upd_ne (fun (z : b = a) => h (by rw [← z]; exact hb))
/-- a new cell -/
theorem Rel.cell' (r : Rel K T ρ σ H) {p : Addr} {o : HO} {c : Cell} (n : H p = none) (h : CR K (ρ ++ [p]) (upd H p o) p c) : Rel K T (ρ ++ [p]) (σ ++ [c]) (upd H p o) := by
  have np : p ∉ ρ := fun z => by
    obtain ⟨u, hu, _⟩ := r.has z
    rw [n] at hu; cases hu
  refine ⟨by rw [List.length_append, List.length_append, r.len]; rfl, ?_, fun i a c' h1 h2 => ?_, r.tb.new n, fun q hq => (Go.cell n).tup r (r.ct q hq)⟩
  · rw [List.nodup_append]
    exact ⟨r.nd, by simp, fun a ha b hb => by rw [List.mem_singleton.mp hb]; exact fun z => np (z ▸ ha)⟩
  · by_cases hi : i < ρ.length
    · rw [List.getElem?_append_left hi] at h1
      rw [List.getElem?_append_left (by rw [r.len]; exact hi)] at h2
      refine (r.cell i a c' h1 h2).go r (Go.cell n).toGo0 ?_
      obtain ⟨u, hu, _⟩ := r.has (List.mem_of_getElem? h1)
      rw [upd_ne (ne_of_none hu n)]
    · have hi' : i = ρ.length := by
        have := (List.getElem?_eq_some_iff.mp h1).1
        rw [List.length_append, List.length_singleton] at this
        omega
      subst hi'
      rw [List.getElem?_append_right (Nat.le_refl _), Nat.sub_self] at h1
      rw [List.getElem?_append_right (by rw [r.len]; exact Nat.le_refl _), r.len, Nat.sub_self] at h2
      cases h1
      cases h2
      exact h
/-- a cell changes -/
theorem Rel.put (r : Rel K T ρ σ H) {i : Nat} {a : Addr} {o : HO} {c : Cell} (hi : ρ[i]? = some a) (h : CR K ρ (upd H a o) a c) : Rel K T ρ (σ.set i c) (upd H a o) := by
  have ha : a ∈ ρ := List.mem_of_getElem? hi
  obtain ⟨u, hu, nu⟩ := r.has ha
  refine ⟨by rw [List.length_set, r.len], r.nd, fun j b c' h1 h2 => ?_, r.tb.over hu nu, fun q hq => (Go0.put ha hu).tup r (r.ct q hq)⟩
  by_cases hj : j = i
  · subst hj
    rw [hi] at h1
    cases h1
    rw [List.getElem?_set_self (by rw [r.len]; exact (List.getElem?_eq_some_iff.mp hi).1)] at h2
    cases h2
    exact h
  · rw [List.getElem?_set_ne (Ne.symm hj)] at h2
    refine (r.cell j b c' h1 h2).go r (Go0.put ha hu) ?_
    have : b ≠ a := fun z => by
      subst z
      obtain ⟨l1, e1⟩ := List.getElem?_eq_some_iff.mp h1
      obtain ⟨l2, e2⟩ := List.getElem?_eq_some_iff.mp hi
      exact hj ((List.getElem_inj r.nd).mp (e1.trans e2.symm))
    rw [upd_ne this]
end
end Aw

/-! Aw2: readings of the hand layer followed by readings of the abstract machine. -/
namespace Aw
open PySem PySem.Spec PyProof.Rows L2 Mw
/-- an error: its class, its fields -/
structure Xn where
  cls : Str
  fs : List W
structure Zx where
  K : PySem.W.Frag
  T : Fx
  xr : List Addr → Hp → Value → Option Addr → Xn → Prop
abbrev QK := W → Sto → Prop
abbrev XQ := Xn → Sto → Prop
abbrev AE := Ev → Sto → QK → XQ → Prop
abbrev AT := Ev → Sto → (Bool → Sto → Prop) → XQ → Prop
abbrev AA := Ev → Sto → (List W → Sto → Prop) → XQ → Prop
abbrev AF := List W → Sto → QK → XQ → Prop
/-- what is wanted behind a statement -/
structure AK where
  nx : Ev → Sto → Prop
  rt : QK
  ex : Ev → XQ
abbrev AS := AK → Ev → Sto → Prop
abbrev AG := W → Ev → Sto → (Ev → Sto → Prop) → Prop
section
variable (Z : Zx) (ρ : List Addr) (H : Hp)
def KQ (Qa : QK) (Q : VK) : Prop := ∀ ρ' σ' H' v w, Go Z.T ρ H ρ' H' → Rel Z.K Z.T ρ' σ' H' → WR Z.K ρ' H' v w → Qa w σ' → Q v H'
def KB (Qa : Bool → Sto → Prop) (Q : Bool → Hp → Prop) : Prop := ∀ ρ' σ' H' b, Go Z.T ρ H ρ' H' → Rel Z.K Z.T ρ' σ' H' → Qa b σ' → Q b H'
def KA (Qa : List W → Sto → Prop) (Q : List V → Hp → Prop) : Prop := ∀ ρ' σ' H' vs ws, Go Z.T ρ H ρ' H' → Rel Z.K Z.T ρ' σ' H' → WRs Z.K ρ' H' vs ws → Qa ws σ' → Q vs H'
def KX (Ea : XQ) (E : XK) : Prop := ∀ ρ' σ' H' cls od x, Go Z.T ρ H ρ' H' → Rel Z.K Z.T ρ' σ' H' → Z.xr ρ' H' cls od x → Ea x σ' → E cls od H'
def KS (N : Ev → Sto → Prop) (M : L2.St → Hp → Prop) : Prop := ∀ ρ' σ' H' s' e', Go Z.T ρ H ρ' H' → Rel Z.K Z.T ρ' σ' H' → ER Z.K ρ' H' s' e' → N e' σ' → M s' H'
def KXs (Ea : Ev → XQ) (E : L2.St → XK) : Prop := ∀ ρ' σ' H' s' e' cls od x, Go Z.T ρ H ρ' H' → Rel Z.K Z.T ρ' σ' H' → ER Z.K ρ' H' s' e' → Z.xr ρ' H' cls od x → Ea e' x σ' → E s' cls od H'
end
section
variable {Z : Zx} {ρ ρ' : List Addr} {H H' : Hp}
theorem KQ.d {Qa : QK} {Q : VK} {σ : Sto} {v : V} {x : PyData} (k : KQ Z ρ H Qa Q) (g : Go Z.T ρ H ρ' H') (r : Rel Z.K Z.T ρ' σ H') (h : Rp Z.K ρ' H' v x) (q : Qa (.d x) σ) : Q v H' := k _ _ _ _ (.d x) g r h q
theorem KQ.r {Qa : QK} {Q : VK} {σ : Sto} {a : Addr} {i : Nat} (k : KQ Z ρ H Qa Q) (g : Go Z.T ρ H ρ' H') (r : Rel Z.K Z.T ρ' σ H') (h : ρ'[i]? = some a) (q : Qa (.ref i) σ) : Q (.ref a) H' := k _ _ _ _ (.ref i) g r ⟨a, h, rfl⟩ q
theorem KQ.go {Qa : QK} {Q : VK} (k : KQ Z ρ H Qa Q) (g : Go Z.T ρ H ρ' H') : KQ Z ρ' H' Qa Q := fun _ _ _ _ _ g' => k _ _ _ _ _ (g.trans g')
theorem KB.go {Qa : Bool → Sto → Prop} {Q : Bool → Hp → Prop} (k : KB Z ρ H Qa Q) (g : Go Z.T ρ H ρ' H') : KB Z ρ' H' Qa Q := fun _ _ _ _ g' => k _ _ _ _ (g.trans g')
theorem KA.go {Qa : List W → Sto → Prop} {Q : List V → Hp → Prop} (k : KA Z ρ H Qa Q) (g : Go Z.T ρ H ρ' H') : KA Z ρ' H' Qa Q := fun _ _ _ _ _ g' => k _ _ _ _ _ (g.trans g')
theorem KX.go {Ea : XQ} {E : XK} (k : KX Z ρ H Ea E) (g : Go Z.T ρ H ρ' H') : KX Z ρ' H' Ea E := fun _ _ _ _ _ _ g' => k _ _ _ _ _ _ (g.trans g')
theorem KS.go {N : Ev → Sto → Prop} {M : L2.St → Hp → Prop} (k : KS Z ρ H N M) (g : Go Z.T ρ H ρ' H') : KS Z ρ' H' N M := fun _ _ _ _ _ g' => k _ _ _ _ _ (g.trans g')
theorem KXs.go {Ea : Ev → XQ} {E : L2.St → XK} (k : KXs Z ρ H Ea E) (g : Go Z.T ρ H ρ' H') : KXs Z ρ' H' Ea E := fun _ _ _ _ _ _ _ _ g' => k _ _ _ _ _ _ _ _ (g.trans g')
end
class SimE (Z : Zx) (E : L2.St → XK) (te : TE) (ae : outParam AE) : Prop where
  sim : ∀ {ρ : List Addr} {σ : Sto} {H : Hp} {s : L2.St} {e : Ev} {Qa : QK} {Ea : XQ} {Q : VK}, Rel Z.K Z.T ρ σ H → ER Z.K ρ H s e → ae e σ Qa Ea → KQ Z ρ H Qa Q → KX Z ρ H Ea (E s) → te s H Q
class SimT (Z : Zx) (E : L2.St → XK) (te : TT) (ae : outParam AT) : Prop where
  sim : ∀ {ρ : List Addr} {σ : Sto} {H : Hp} {s : L2.St} {e : Ev} {Qa : Bool → Sto → Prop} {Ea : XQ} {Q : Bool → Hp → Prop}, Rel Z.K Z.T ρ σ H → ER Z.K ρ H s e → ae e σ Qa Ea → KB Z ρ H Qa Q → KX Z ρ H Ea (E s) → te s H Q
class SimA (Z : Zx) (E : L2.St → XK) (te : TA) (ae : outParam AA) : Prop where
  sim : ∀ {ρ : List Addr} {σ : Sto} {H : Hp} {s : L2.St} {e : Ev} {Qa : List W → Sto → Prop} {Ea : XQ} {Q : List V → Hp → Prop}, Rel Z.K Z.T ρ σ H → ER Z.K ρ H s e → ae e σ Qa Ea → KA Z ρ H Qa Q → KX Z ρ H Ea (E s) → te s H Q
class SimS (Z : Zx) (E : L2.St → XK) (ts : TS) (as : outParam AS) : Prop where
  sim : ∀ {ρ : List Addr} {σ : Sto} {H : Hp} {s : L2.St} {e : Ev} {k : AK} {D : Ends}, Rel Z.K Z.T ρ σ H → ER Z.K ρ H s e → as k e σ → KS Z ρ H k.nx D.nx → KQ Z ρ H k.rt D.rt → KXs Z ρ H k.ex E → ts D s H
class SimG (Z : Zx) (g : TG) (ag : outParam AG) : Prop where
  sim : ∀ {ρ : List Addr} {σ : Sto} {H : Hp} {s : L2.St} {e : Ev} {v : V} {w : W} {N : Ev → Sto → Prop} {M : L2.St → Hp → Prop}, Rel Z.K Z.T ρ σ H → ER Z.K ρ H s e → WR Z.K ρ H v w → ag w e σ N → KS Z ρ H N M → g v s H M
class SimGs (Z : Zx) (g : TGs) (ag : outParam (List W → Ev → Sto → (Ev → Sto → Prop) → Prop)) : Prop where
  sim : ∀ {ρ : List Addr} {σ : Sto} {H : Hp} {s : L2.St} {e : Ev} {vs : List V} {ws : List W} {N : Ev → Sto → Prop} {M : L2.St → Hp → Prop}, Rel Z.K Z.T ρ σ H → ER Z.K ρ H s e → WRs Z.K ρ H vs ws → ag ws e σ N → KS Z ρ H N M → g vs s H M
/-- two-place operations, calls of built-ins, methods -/
class SimR2 (Z : Zx) (r : R2) (ra : outParam (W → W → Sto → QK → Prop)) : Prop where
  sim : ∀ {ρ : List Addr} {σ : Sto} {H : Hp} {x y : V} {a b : W} {Qa : QK} {Q : VK}, Rel Z.K Z.T ρ σ H → WR Z.K ρ H x a → WR Z.K ρ H y b → ra a b σ Qa → KQ Z ρ H Qa Q → r x y H Q
class SimU (Z : Zx) (r : V → Hp → VK → Prop) (ra : outParam (W → Sto → QK → Prop)) : Prop where
  sim : ∀ {ρ : List Addr} {σ : Sto} {H : Hp} {x : V} {a : W} {Qa : QK} {Q : VK}, Rel Z.K Z.T ρ σ H → WR Z.K ρ H x a → ra a σ Qa → KQ Z ρ H Qa Q → r x H Q
class SimC (Z : Zx) (r : List V → Hp → VK → Prop) (ra : outParam (List W → Sto → QK → Prop)) : Prop where
  sim : ∀ {ρ : List Addr} {σ : Sto} {H : Hp} {xs : List V} {ws : List W} {Qa : QK} {Q : VK}, Rel Z.K Z.T ρ σ H → WRs Z.K ρ H xs ws → ra ws σ Qa → KQ Z ρ H Qa Q → r xs H Q
class SimM (Z : Zx) (r : V → List V → Hp → VK → Prop) (ra : outParam (W → List W → Sto → QK → Prop)) : Prop where
  sim : ∀ {ρ : List Addr} {σ : Sto} {H : Hp} {x : V} {a : W} {xs : List V} {ws : List W} {Qa : QK} {Q : VK}, Rel Z.K Z.T ρ σ H → WR Z.K ρ H x a → WRs Z.K ρ H xs ws → ra a ws σ Qa → KQ Z ρ H Qa Q → r x xs H Q
theorem Paired.get {α β : Type} {R : α → β → Prop} : ∀ {l : List α} {m : List β} {i : Nat} {b : β}, Paired R l m → m[i]? = some b → ∃ a, l[i]? = some a ∧ R a b
  | _, _, _, _, .nil, e => by simp at e
  | _, _, 0, _, .cons r _, e => by simp at e; subst e; exact ⟨_, rfl, r⟩
  | _, _, i + 1, b, .cons _ t, e => by
    obtain ⟨u, h1, h2⟩ := Paired.get (i := i) (b := b) t (by simpa using e)
    exact ⟨u, by simpa using h1, h2⟩
theorem Paired.set {α β : Type} {R : α → β → Prop} {x : α} {u : β} (r : R x u) : ∀ {xs : List α} {us : List β} (i : Nat), Paired R xs us → Paired R (xs.set i x) (us.set i u)
  | _, _, _, .nil => .nil
  | _, _, 0, .cons _ t => .cons r t
  | _, _, i + 1, .cons q t => .cons q (Paired.set r i t)
theorem Paired.len {α β : Type} {R : α → β → Prop} : ∀ {l : List α} {m : List β}, Paired R l m → l.length = m.length
  | _, _, .nil => rfl
  | _, _, .cons _ t => by simp [Paired.len t]
/-! ### names, constants -/
def aVar (i : Nat) : AE := fun e σ Q _ => ∃ w, e[i]? = some (some w) ∧ Q w σ
def aD (x : PyData) : AE := fun _ σ Q _ => Q (.d x) σ
section
variable {Z : Zx} {E : L2.St → XK}
instance sim_var {i : Nat} : SimE Z E (tVar i) (aVar i) := ⟨fun {ρ σ H s e Qa Ea Q} r er h kq _ => by
  obtain ⟨w, hw, q⟩ := h
  obtain ⟨o, ho, hr⟩ := Paired.get er hw
  cases o with
  | none => exact hr.elim
  | some v => exact ⟨v, ho, kq _ _ _ _ _ .refl r hr q⟩⟩
instance sim_int {i : Int} : SimE Z E (tC (.int i)) (aD (.int i)) := ⟨fun r _ h kq _ => kq _ _ _ _ (.d (.int i)) .refl r (Rp.int i) h⟩
instance sim_bl {i : Bool} : SimE Z E (tC (.bl i)) (aD (.bool i)) := ⟨fun r _ h kq _ => kq _ _ _ _ (.d (.bool i)) .refl r (Rp.bl i) h⟩
instance sim_str {i : Str} : SimE Z E (tC (.str i)) (aD (.str i)) := ⟨fun r _ h kq _ => kq _ _ _ _ (.d (.str i)) .refl r (Rp.str i) h⟩
instance sim_non : SimE Z E (tC .non) (aD .none) := ⟨fun r _ h kq _ => kq _ _ _ _ (.d .none) .refl r Rp.non h⟩
/-! ### operators, arguments, calls of built-ins -/
variable {ta tb tc : TE} {fa fb fc : AE} {tt tu : TT} {ft fu : AT}
def aOp (ra : W → W → Sto → QK → Prop) (fa fb : AE) : AE := fun e σ Q X => fa e σ (fun x σ1 => fb e σ1 (fun y σ2 => ra x y σ2 Q) X) X
def aUn (ra : W → Sto → QK → Prop) (fa : AE) : AE := fun e σ Q X => fa e σ (fun x σ1 => ra x σ1 Q) X
instance sim_op {r : R2} {ra : W → W → Sto → QK → Prop} [i2 : SimR2 Z r ra] [ia : SimE Z E ta fa] [ib : SimE Z E tb fb] : SimE Z E (tOp r ta tb) (aOp ra fa fb) := ⟨fun r er h kq kx =>
  ia.sim r er h (fun _ _ _ _ _ g1 r1 v1 h1 => ib.sim r1 (g1.er r er) h1 (fun _ _ _ _ _ g2 r2 v2 h2 => i2.sim r2 (g2.wr r1 v1) v2 h2 (kq.go (g1.trans g2))) (kx.go g1)) kx⟩
instance sim_un {r : V → Hp → VK → Prop} {ra : W → Sto → QK → Prop} [i2 : SimU Z r ra] [ia : SimE Z E ta fa] : SimE Z E (tUn r ta) (aUn ra fa) := ⟨fun r er h kq kx =>
  ia.sim r er h (fun _ _ _ _ _ g1 r1 v1 h1 => i2.sim r1 v1 h1 (kq.go g1)) kx⟩
def aNil : AA := fun _ σ Q _ => Q [] σ
def aCons (fa : AE) (fr : AA) : AA := fun e σ Q X => fa e σ (fun x σ1 => fr e σ1 (fun xs σ2 => Q (x :: xs) σ2) X) X
instance sim_anil : SimA Z E tNil aNil := ⟨fun r _ h k _ => k _ _ _ _ _ .refl r .nil h⟩
instance sim_acons {t : TA} {fr : AA} [ia : SimE Z E ta fa] [ir : SimA Z E t fr] : SimA Z E (tCons ta t) (aCons fa fr) := ⟨fun r er h k kx =>
  ia.sim r er h (fun _ _ _ _ _ g1 r1 v1 h1 => ir.sim r1 (g1.er r er) h1 (fun _ _ _ _ _ g2 r2 v2 h2 => k _ _ _ _ _ (g1.trans g2) r2 (.cons (g2.wr r1 v1) v2) h2) (kx.go g1)) kx⟩
def aCB (ra : List W → Sto → QK → Prop) (fa : AA) : AE := fun e σ Q X => fa e σ (fun xs σ1 => ra xs σ1 Q) X
instance sim_cb {r : List V → Hp → VK → Prop} {ra : List W → Sto → QK → Prop} {t : TA} {fr : AA} [i2 : SimC Z r ra] [ir : SimA Z E t fr] : SimE Z E (tCB r t) (aCB ra fr) := ⟨fun r er h kq kx =>
  ir.sim r er h (fun _ _ _ _ _ g1 r1 v1 h1 => i2.sim r1 v1 h1 (kq.go g1)) kx⟩
/-! ### tests -/
def aTest (fa : AE) : AT := fun e σ Q X => fa e σ (fun x σ1 => ∃ b, x = .d (.bool b) ∧ Q b σ1) X
theorem WR.bool {K : PySem.W.Frag} {ρ : List Addr} {H : Hp} {v : V} {b : Bool} (h : WR K ρ H v (.d (.bool b))) : v = .bl b := by cases h; rfl
theorem WR.int {K : PySem.W.Frag} {ρ : List Addr} {H : Hp} {v : V} {b : Int} (h : WR K ρ H v (.d (.int b))) : v = .int b := by cases h; rfl
theorem WR.str {K : PySem.W.Frag} {ρ : List Addr} {H : Hp} {v : V} {b : Str} (h : WR K ρ H v (.d (.str b))) : v = .str b := by cases h; rfl
instance sim_test [ia : SimE Z E ta fa] : SimT Z E (tTest ta) (aTest fa) := ⟨fun r er h k kx =>
  ia.sim r er h (fun _ _ _ _ _ g1 r1 v1 h1 => by
    obtain ⟨b, rfl, q⟩ := h1
    cases v1.bool
    exact ⟨b, rfl, k _ _ _ _ g1 r1 q⟩) kx⟩
instance sim_tB [ia : SimE Z E ta fa] : SimT Z E (tB ta) (aTest fa) := ⟨fun r er h k kx =>
  ia.sim r er h (fun _ _ _ _ _ g1 r1 v1 h1 => by
    obtain ⟨b, rfl, q⟩ := h1
    cases v1.bool
    exact ⟨b, rfl, k _ _ _ _ g1 r1 q⟩) kx⟩
def aAnd (ft fu : AT) : AT := fun e σ Q X => ft e σ (fun b σ1 => if b = true then fu e σ1 Q X else Q false σ1) X
def aOr (ft fu : AT) : AT := fun e σ Q X => ft e σ (fun b σ1 => if b = true then Q true σ1 else fu e σ1 Q X) X
def aNot (ft : AT) : AT := fun e σ Q X => ft e σ (fun b σ1 => Q (!b) σ1) X
instance sim_and [it : SimT Z E tt ft] [iu : SimT Z E tu fu] : SimT Z E (tAnd tt tu) (aAnd ft fu) := ⟨fun r er h k kx =>
  it.sim r er h (fun _ _ _ b g1 r1 h1 => by
    cases b with
    | true => exact iu.sim r1 (g1.er r er) h1 (k.go g1) (kx.go g1)
    | false => exact k _ _ _ _ g1 r1 h1) kx⟩
instance sim_or [it : SimT Z E tt ft] [iu : SimT Z E tu fu] : SimT Z E (tOr tt tu) (aOr ft fu) := ⟨fun r er h k kx =>
  it.sim r er h (fun _ _ _ b g1 r1 h1 => by
    cases b with
    | false => exact iu.sim r1 (g1.er r er) h1 (k.go g1) (kx.go g1)
    | true => exact k _ _ _ _ g1 r1 h1) kx⟩
instance sim_not [it : SimT Z E tt ft] : SimT Z E (tNot tt) (aNot ft) := ⟨fun r er h k kx =>
  it.sim r er h (fun _ _ _ b g1 r1 h1 => k _ _ _ _ g1 r1 h1) kx⟩
def aAndV (fa fb : AE) : AE := fun e σ Q X => fa e σ (fun x σ1 => ∃ b, x = .d (.bool b) ∧ if b = true then fb e σ1 Q X else Q (.d (.bool false)) σ1) X
def aOrV (fa fb : AE) : AE := fun e σ Q X => fa e σ (fun x σ1 => ∃ b, x = .d (.bool b) ∧ if b = true then Q (.d (.bool true)) σ1 else fb e σ1 Q X) X
def aNotV (fa : AE) : AE := fun e σ Q X => fa e σ (fun x σ1 => ∃ b, x = .d (.bool b) ∧ Q (.d (.bool (!b))) σ1) X
instance sim_andV [ia : SimE Z E ta fa] [ib : SimE Z E tb fb] : SimE Z E (tAndV ta tb) (aAndV fa fb) := ⟨fun r er h k kx =>
  ia.sim r er h (fun _ _ _ _ _ g1 r1 v1 h1 => by
    obtain ⟨b, rfl, q⟩ := h1
    cases v1.bool
    refine ⟨b, rfl, ?_⟩
    cases b with
    | true => exact ib.sim r1 (g1.er r er) q (k.go g1) (kx.go g1)
    | false => exact k.d g1 r1 (Rp.bl false) q) kx⟩
instance sim_orV [ia : SimE Z E ta fa] [ib : SimE Z E tb fb] : SimE Z E (tOrV ta tb) (aOrV fa fb) := ⟨fun r er h k kx =>
  ia.sim r er h (fun _ _ _ _ _ g1 r1 v1 h1 => by
    obtain ⟨b, rfl, q⟩ := h1
    cases v1.bool
    refine ⟨b, rfl, ?_⟩
    cases b with
    | false => exact ib.sim r1 (g1.er r er) q (k.go g1) (kx.go g1)
    | true => exact k.d g1 r1 (Rp.bl true) q) kx⟩
instance sim_notV [ia : SimE Z E ta fa] : SimE Z E (tNotV ta) (aNotV fa) := ⟨fun r er h k kx =>
  ia.sim r er h (fun _ _ _ _ _ g1 r1 v1 h1 => by
    obtain ⟨b, rfl, q⟩ := h1
    cases v1.bool
    exact ⟨b, rfl, k.d g1 r1 (Rp.bl (!b)) q⟩) kx⟩
def aIf (ft : AT) (fa fb : AE) : AE := fun e σ Q X => ft e σ (fun b σ1 => if b = true then fa e σ1 Q X else fb e σ1 Q X) X
instance sim_ifE [it : SimT Z E tt ft] [ia : SimE Z E ta fa] [ib : SimE Z E tb fb] : SimE Z E (tIf tt ta tb) (aIf ft fa fb) := ⟨fun r er h k kx =>
  it.sim r er h (fun _ _ _ b g1 r1 h1 => by
    cases b with
    | true => exact ia.sim r1 (g1.er r er) h1 (k.go g1) (kx.go g1)
    | false => exact ib.sim r1 (g1.er r er) h1 (k.go g1) (kx.go g1)) kx⟩
/-- a op1 b op2 c -/
def aChain (ra rb : W → W → Sto → QK → Prop) (fa fb fc : AE) : AE := fun e σ Q X => fa e σ (fun x σ1 => fb e σ1 (fun y σ2 => ra x y σ2 (fun z σ3 => ∃ k, z = .d (.bool k) ∧ if k = true then fc e σ3 (fun w σ4 => rb y w σ4 Q) X else Q (.d (.bool false)) σ3)) X) X
instance sim_chain {r r' : R2} {ra rb : W → W → Sto → QK → Prop} [i2 : SimR2 Z r ra] [i3 : SimR2 Z r' rb] [ia : SimE Z E ta fa] [ib : SimE Z E tb fb] [ic : SimE Z E tc fc] : SimE Z E (tChain r r' ta tb tc) (aChain ra rb fa fb fc) := ⟨fun r0 er h kq kx =>
  ia.sim r0 er h (fun _ _ _ _ _ g1 r1 v1 h1 => ib.sim r1 (g1.er r0 er) h1 (fun _ _ _ _ _ g2 r2 v2 h2 => i2.sim r2 (g2.wr r1 v1) v2 h2 (fun _ _ _ _ _ g3 r3 v3 h3 => by
    obtain ⟨k, rfl, q⟩ := h3
    cases v3.bool
    refine ⟨k, rfl, ?_⟩
    have g12 := g1.trans g2
    have g13 := g12.trans g3
    cases k with
    | true => exact ic.sim r3 (g13.er r0 er) q (fun _ _ _ _ _ g4 r4 v4 h4 => i3.sim r4 ((g3.trans g4).wr r2 v2) v4 h4 (kq.go (g13.trans g4))) (kx.go g13)
    | false => exact kq.d g13 r3 (Rp.bl false) q)) (kx.go g1)) kx⟩
/-! ### tuples; lists that stay -/
def pures : List W → Option (List PyData)
  | [] => some []
  | .d x :: r => (pures r).map (x :: ·)
  | _ :: _ => none
@[simp] theorem pures_nil : pures [] = some [] := rfl
@[simp] theorem pures_d (x : PyData) (r : List W) : pures (.d x :: r) = (pures r).map (x :: ·) := rfl
theorem pures_rp {K : PySem.W.Frag} {ρ : List Addr} {H : Hp} : ∀ {vs : List V} {ws : List W} {ds : List PyData}, WRs K ρ H vs ws → pures ws = some ds → RpAll K ρ H vs ds
  | _, _, ds, .nil, e => by cases e; exact .nil
  | _, .d x :: r, ds, .cons h t, e => by
    obtain ⟨ds', h1, rfl⟩ := Option.map_eq_some_iff.mp (show (pures r).map (x :: ·) = some ds from e)
    exact .cons h (pures_rp t h1)
  | _, .ref _ :: _, _, .cons _ _, e => by cases e
  | _, .scr _ :: _, _, .cons _ _, e => by cases e
theorem rpAll_wrs {K : PySem.W.Frag} {ρ : List Addr} {H : Hp} : ∀ {vs : List V} {ds : List PyData}, RpAll K ρ H vs ds → WRs K ρ H vs (ds.map .d)
  | _, _, .nil => .nil
  | _, _, .cons h t => .cons h (rpAll_wrs t)
theorem pures_map : ∀ ds : List PyData, pures (ds.map .d) = some ds
  | [] => rfl
  | d :: ds => by simp [pures_map ds]
theorem rpAll_len {K : PySem.W.Frag} {ρ : List Addr} {H : Hp} : ∀ {vs : List V} {ds : List PyData}, RpAll K ρ H vs ds → vs.length = ds.length
  | _, _, .nil => rfl
  | _, _, .cons _ t => by simp [rpAll_len t]
/-- what is laid anew, no cell -/
theorem KQ.layT {Z : Zx} {ρ : List Addr} {σ : Sto} {H : Hp} {Qa : QK} {Q : VK} {p : Addr} {xs : List V} {ds : List PyData} (k : KQ Z ρ H Qa Q) (r : Rel Z.K Z.T ρ σ H) (n : H p = none) (h : RpAll Z.K ρ H xs ds) (q : Qa (.d (.tuple ds)) σ) : Q (.ref p) (upd H p (.tup xs)) :=
  k.d (Go.lay n) (r.lay n) (Rp.tup upd_same (Go.rpAll r (Go.lay n) h)) q
theorem Rel.fresh {K : PySem.W.Frag} {T : Fx} {ρ : List Addr} {σ : Sto} {H : Hp} (r : Rel K T ρ σ H) {p : Addr} (n : H p = none) : p ∉ ρ := fun z => by
  obtain ⟨u, hu, _⟩ := r.has z
  rw [n] at hu
  cases hu
theorem KQ.layL {Z : Zx} {ρ : List Addr} {σ : Sto} {H : Hp} {Qa : QK} {Q : VK} {p : Addr} {xs : List V} {ds : List PyData} (k : KQ Z ρ H Qa Q) (r : Rel Z.K Z.T ρ σ H) (n : H p = none) (h : RpAll Z.K ρ H xs ds) (q : Qa (.d (.list ds)) σ) : Q (.ref p) (upd H p (.lst xs)) :=
  k.d (Go.lay n) (r.lay n) (Rp.lst ⟨r.fresh n, .inl upd_same⟩ (Go.rpAll r (Go.lay n) h)) q
/-- a new list that is a cell -/
theorem KQ.layC {Z : Zx} {ρ : List Addr} {σ : Sto} {H : Hp} {Qa : QK} {Q : VK} {p : Addr} {xs : List V} {ws : List W} (k : KQ Z ρ H Qa Q) (r : Rel Z.K Z.T ρ σ H) (n : H p = none) (h : WRs Z.K ρ H xs ws) (q : Qa (.ref σ.length) (σ ++ [.lst ws])) : Q (.ref p) (upd H p (.lst xs)) :=
  k.r (Go.cell n) (r.cell' (c := .lst ws) n ⟨xs, upd_same, (Go.cell n).wrs r h⟩) (by rw [r.len, List.getElem?_append_right (Nat.le_refl _), Nat.sub_self]; rfl) q
theorem KQ.layDK {Z : Zx} {ρ : List Addr} {σ : Sto} {H : Hp} {Qa : QK} {Q : VK} {p : Addr} (k : KQ Z ρ H Qa Q) (r : Rel Z.K Z.T ρ σ H) (n : H p = none) (q : Qa (.ref σ.length) (σ ++ [.dct false []])) : Q (.ref p) (upd H p (.dK [])) :=
  k.r (Go.cell n) (r.cell' (c := .dct false []) n ⟨[], upd_same, .nil⟩) (by rw [r.len, List.getElem?_append_right (Nat.le_refl _), Nat.sub_self]; rfl) q
theorem KQ.layDT {Z : Zx} {ρ : List Addr} {σ : Sto} {H : Hp} {Qa : QK} {Q : VK} {p : Addr} (k : KQ Z ρ H Qa Q) (r : Rel Z.K Z.T ρ σ H) (n : H p = none) (q : Qa (.ref σ.length) (σ ++ [.dct true []])) : Q (.ref p) (upd H p (.dT [])) :=
  k.r (Go.cell n) (r.cell' (c := .dct true []) n ⟨[], upd_same, .nil⟩) (by rw [r.len, List.getElem?_append_right (Nat.le_refl _), Nat.sub_self]; rfl) q
/-- a new empty dict that stays so -/
def aTup (fr : AA) : AE := fun e σ Q X => fr e σ (fun ws σ1 => ∃ ds, pures ws = some ds ∧ ds.length ≤ sizeLine ∧ Q (.d (.tuple ds)) σ1) X
instance sim_tup {t : TA} {fr : AA} [ir : SimA Z E t fr] : SimE Z E (tTup t) (aTup fr) := ⟨fun r er h k kx =>
  ir.sim r er h (fun _ _ _ _ _ g1 r1 v1 h1 => by
    obtain ⟨ds, hp, hl, q⟩ := h1
    have ra := pures_rp v1 hp
    exact ⟨by rw [rpAll_len ra]; exact hl, fun p n => (k.go g1).layT r1 n ra q⟩) kx⟩
end
end Aw

/-! Aw3: statements, loops, calls. -/
namespace Aw
open PySem PySem.Spec PyProof.Rows L2 Mw
section
variable {Z : Zx} {E : L2.St → XK} {ta tb : TE} {fa fb : AE} {tt : TT} {ft : AT} {ts tu : TS} {sa sb : AS}
theorem KXs.at_ {ρ : List Addr} {σ : Sto} {H : Hp} {s : L2.St} {e : Ev} {Ea : Ev → XQ} (k : KXs Z ρ H Ea E) (r : Rel Z.K Z.T ρ σ H) (er : ER Z.K ρ H s e) : KX Z ρ H (Ea e) (E s) :=
  fun _ _ _ _ _ _ g r' x q => k _ _ _ _ _ _ _ _ g r' (g.er r er) x q
def aNext : AS := fun k e σ => k.nx e σ
def aNever : AS := fun _ _ _ => False
def aSeq (a b : AS) : AS := fun k e σ => a { k with nx := b k } e σ
def aDrop (fa : AE) : AS := fun k e σ => fa e σ (fun _ σ1 => k.nx e σ1) (k.ex e)
def aRet (fa : AE) : AS := fun k e σ => fa e σ k.rt (k.ex e)
def aRetN : AS := fun k _ σ => k.rt (.d .none) σ
def aIfS (ft : AT) (a b : AS) : AS := fun k e σ => ft e σ (fun c σ1 => if c = true then a k e σ1 else b k e σ1) (k.ex e)
def aAsg (fa : AE) (g : AG) : AS := fun k e σ => fa e σ (fun w σ1 => g w e σ1 k.nx) (k.ex e)
instance sim_next : SimS Z E tNext aNext := ⟨fun r er h kn _ _ => kn _ _ _ _ _ .refl r er h⟩
instance sim_never : SimS Z E tNever aNever := ⟨fun r er h kn _ _ => h.elim⟩
instance sim_seq [i1 : SimS Z E ts sa] [i2 : SimS Z E tu sb] : SimS Z E (tSeq ts tu) (aSeq sa sb) := ⟨fun r er h kn kr kx =>
  i1.sim r er h (fun _ _ _ _ _ g r' er' h' => i2.sim r' er' h' (kn.go g) (kr.go g) (kx.go g)) kr kx⟩
instance sim_drop [ia : SimE Z E ta fa] : SimS Z E (tDrop ta) (aDrop fa) := ⟨fun r er h kn kr kx =>
  ia.sim r er h (fun _ _ _ _ _ g r' _ h' => kn _ _ _ _ _ g r' (g.er r er) h') (kx.at_ r er)⟩
instance sim_ret [ia : SimE Z E ta fa] : SimS Z E (tRet ta) (aRet fa) := ⟨fun r er h kn kr kx => ia.sim r er h kr (kx.at_ r er)⟩
instance sim_retN : SimS Z E tRetN aRetN := ⟨fun r er h kn kr kx => kr.d .refl r Rp.non h⟩
instance sim_ifS [it : SimT Z E tt ft] [i1 : SimS Z E ts sa] [i2 : SimS Z E tu sb] : SimS Z E (tIfS tt ts tu) (aIfS ft sa sb) := ⟨fun r er h kn kr kx =>
  it.sim r er h (fun _ _ _ b g r' h' => by
    cases b with
    | true => exact i1.sim r' (g.er r er) h' (kn.go g) (kr.go g) (kx.go g)
    | false => exact i2.sim r' (g.er r er) h' (kn.go g) (kr.go g) (kx.go g)) (kx.at_ r er)⟩
instance sim_asg {g : TG} {ag : AG} [ia : SimE Z E ta fa] [ig : SimG Z g ag] : SimS Z E (tAsg ta g) (aAsg fa ag) := ⟨fun r er h kn kr kx =>
  ia.sim r er h (fun _ _ _ _ _ g r' v h' => ig.sim r' (g.er r er) v h' (kn.go g)) (kx.at_ r er)⟩
/-! ### targets -/
def agN (i : Nat) : AG := fun w e σ N => N (e.set i (some w)) σ
def agT (n : Nat) (t : List W → Ev → Sto → (Ev → Sto → Prop) → Prop) : AG := fun w e σ N => ∃ ds, w = .d (.tuple ds) ∧ ds.length = n ∧ t (ds.map .d) e σ N
def agNil : List W → Ev → Sto → (Ev → Sto → Prop) → Prop := fun ws e σ N => ws = [] ∧ N e σ
def agCons (g : AG) (t : List W → Ev → Sto → (Ev → Sto → Prop) → Prop) : List W → Ev → Sto → (Ev → Sto → Prop) → Prop := fun ws e σ N => ∃ w r, ws = w :: r ∧ g w e σ (fun e1 σ1 => t r e1 σ1 N)
instance sim_gN {i : Nat} : SimG Z (gName i) (agN i) := ⟨fun r er v h k => k _ _ _ _ _ .refl r (Paired.set (by exact v) i er) h⟩
theorem WR.tup {K : PySem.W.Frag} {ρ : List Addr} {H : Hp} {v : V} {ds : List PyData} (h : WR K ρ H v (.d (.tuple ds))) : ∃ a xs, v = .ref a ∧ H a = some (.tup xs) ∧ RpAll K ρ H xs ds := by
  cases h with
  | tup h1 h2 => exact ⟨_, _, rfl, h1, h2⟩
instance sim_gT {n : Nat} {t : TGs} {at_ : List W → Ev → Sto → (Ev → Sto → Prop) → Prop} [i1 : SimGs Z t at_] : SimG Z (gTup Z.K n t) (agT n at_) := ⟨fun r er v h k => by
  obtain ⟨ds, rfl, hl, q⟩ := h
  obtain ⟨a, xs, rfl, h1, h2⟩ := v.tup
  exact ⟨a, xs, rfl, .inl (.inl h1), by rw [rpAll_len h2]; exact hl, i1.sim r er (rpAll_wrs h2) q k⟩⟩
instance sim_gNil : SimGs Z gNil agNil := ⟨fun r er v h k => by
  obtain ⟨rfl, q⟩ := h
  cases v
  exact ⟨rfl, k _ _ _ _ _ .refl r er q⟩⟩
instance sim_gCons {g : TG} {ag : AG} {t : TGs} {at_ : List W → Ev → Sto → (Ev → Sto → Prop) → Prop} [i1 : SimG Z g ag] [i2 : SimGs Z t at_] : SimGs Z (gCons g t) (agCons ag at_) := ⟨fun r er v h k => by
  obtain ⟨w, ws, rfl, q⟩ := h
  cases v with
  | cons h1 h2 => exact ⟨_, _, rfl, i1.sim r er h1 q fun _ _ _ _ _ g r' er' q' => i2.sim r' er' (g.wrs r h2) q' (k.go g)⟩⟩
def aPar (i j : Nat) (fr : AA) : AS := fun k e σ => fr e σ (fun ws σ1 => ∃ v w, ws = [v, w] ∧ k.nx ((e.set i (some v)).set j (some w)) σ1) (k.ex e)
instance sim_par {i j : Nat} {t : TA} {fr : AA} [ir : SimA Z E t fr] : SimS Z E (tPar i j t) (aPar i j fr) := ⟨fun r er h kn kr kx =>
  ir.sim r er h (fun _ _ _ _ _ g r' v h' => by
    obtain ⟨x, y, rfl, q⟩ := h'
    cases v with
    | cons h1 h2 => cases h2 with
      | cons h2 h3 =>
        cases h3
        exact ⟨_, _, rfl, kn _ _ _ _ _ g r' (Paired.set (by exact h2) j (Paired.set (by exact h1) i (g.er r er))) q⟩) (kx.at_ r er)⟩
/-! ### what is walked -/
abbrev AI := Ev → Sto → (List W → (Sto → Prop) → Sto → Prop) → XQ → Prop
/-- the iterator gives these items, as long as the store is as it has to stay -/
def ItR (Z : Zx) (ρ : List Addr) (H : Hp) (J : It) (items : List W) (stay : Sto → Prop) : Prop := ∀ ρ' σ' H', Go Z.T ρ H ρ' H' → Rel Z.K Z.T ρ' σ' H' → stay σ' →
  (∀ (i : Nat) (w : W), items[i]? = some w → J.go i H' ∧ ∀ x H2, J.yld i H' x H2 → Go Z.T ρ' H' ρ' H2 ∧ Rel Z.K Z.T ρ' σ' H2 ∧ WR Z.K ρ' H2 x w) ∧ J.stop items.length H'
theorem ItR.go {ρ ρ' : List Addr} {H H' : Hp} {J : It} {items : List W} {stay : Sto → Prop} (h : ItR Z ρ H J items stay) (g : Go Z.T ρ H ρ' H') : ItR Z ρ' H' J items stay := fun _ _ _ g' => h _ _ _ (g.trans g')
def KI (Z : Zx) (ρ : List Addr) (H : Hp) (Ra : List W → (Sto → Prop) → Sto → Prop) (R : It → Hp → Prop) : Prop := ∀ ρ' σ' H' J items stay, Go Z.T ρ H ρ' H' → Rel Z.K Z.T ρ' σ' H' → ItR Z ρ' H' J items stay → Ra items stay σ' → R J H'
theorem KI.go {ρ ρ' : List Addr} {H H' : Hp} {Ra : List W → (Sto → Prop) → Sto → Prop} {R : It → Hp → Prop} (k : KI Z ρ H Ra R) (g : Go Z.T ρ H ρ' H') : KI Z ρ' H' Ra R := fun _ _ _ _ _ _ g' => k _ _ _ _ _ _ (g.trans g')
class SimI (Z : Zx) (E : L2.St → XK) (wi : TI) (ai : outParam AI) : Prop where
  sim : ∀ {ρ : List Addr} {σ : Sto} {H : Hp} {s : L2.St} {e : Ev} {Ra : List W → (Sto → Prop) → Sto → Prop} {Ea : XQ} {R : It → Hp → Prop}, Rel Z.K Z.T ρ σ H → ER Z.K ρ H s e → ai e σ Ra Ea → KI Z ρ H Ra R → KX Z ρ H Ea (E s) → wi s H R
/-- a loop over items -/
def aLoop (ag : AG) (body : AS) (stay : Sto → Prop) (k : AK) : List W → Ev → Sto → Prop
  | [], e, σ => stay σ ∧ k.nx e σ
  | w :: r, e, σ => stay σ ∧ ag w e σ (fun e1 σ1 => body { k with nx := aLoop ag body stay k r } e1 σ1)
def aFor (ai : AI) (ag : AG) (body : AS) : AS := fun k e σ => ai e σ (fun items stay σ1 => aLoop ag body stay k items e σ1) (k.ex e)
instance sim_for {wi : TI} {ai : AI} {g : TG} {ag : AG} [ii : SimI Z E wi ai] [ig : SimG Z g ag] [i1 : SimS Z E ts sa] : SimS Z E (tFor wi g ts) (aFor ai ag sa) := ⟨fun {ρ σ H s e k D} r er h kn kr kx =>
  ii.sim r er h (fun ρ1 σ1 H1 J items stay g1 r1 it h1 => by
    refine ⟨fun i m s' H' => m = items.length - i ∧ i ≤ items.length ∧ ∃ ρ' σ' e', Go Z.T ρ1 H1 ρ' H' ∧ Rel Z.K Z.T ρ' σ' H' ∧ ER Z.K ρ' H' s' e' ∧ aLoop ag sa stay k (items.drop i) e' σ',
      ⟨_, rfl, Nat.zero_le _, ρ1, σ1, e, .refl, r1, g1.er r er, h1⟩, ?_⟩
    rintro i m s' H' ⟨rfl, hi, ρ', σ', e', g', r', er', h'⟩
    by_cases hlt : i < items.length
    · rw [List.drop_eq_getElem_cons hlt] at h'
      obtain ⟨st, h'⟩ := h'
      obtain ⟨a1, a2⟩ := (it _ _ _ g' r' st).1 i items[i] (List.getElem?_eq_getElem hlt)
      refine .inr ⟨a1, fun s2 H2 => i + 1 ≤ items.length ∧ ∃ ρ' σ' e', Go Z.T ρ1 H1 ρ' H2 ∧ Rel Z.K Z.T ρ' σ' H2 ∧ ER Z.K ρ' H2 s2 e' ∧ aLoop ag sa stay k (items.drop (i + 1)) e' σ', fun s2 H2 n => ⟨_, by omega, rfl, n.1, n.2⟩, fun x H2 y => ?_⟩
      obtain ⟨g2, r2, v2⟩ := a2 x H2 y
      have g12 := (g1.trans g').trans g2
      refine ig.sim r2 (g2.er r' er') v2 h' fun ρ3 σ3 H3 s3 e3 g3 r3 er3 h3 => ?_
      have g13 := g12.trans g3
      refine i1.sim r3 er3 h3 (fun ρ4 σ4 H4 s4 e4 g4 r4 er4 h4 => ?_) (kr.go g13) (kx.go g13)
      exact ⟨hlt, ρ4, σ4, e4, ((g'.trans g2).trans g3).trans g4, r4, er4, h4⟩
    · have ei : i = items.length := by omega
      subst ei
      rw [List.drop_length] at h'
      obtain ⟨st, h'⟩ := h'
      exact .inl ⟨(it _ _ _ g' r' st).2, kn _ _ _ _ _ (g1.trans g') r' er' h'⟩) (kx.at_ r er)⟩
/-! ### while -/
def aWh (ft : AT) (body : AS) (k : AK) : Nat → Ev → Sto → Prop
  | 0, _, _ => False
  | n + 1, e, σ => ft e σ (fun c σ1 => if c = true then body { k with nx := aWh ft body k n } e σ1 else k.nx e σ1) (k.ex e)
def aWhile (ft : AT) (body : AS) : AS := fun k e σ => ∃ n, aWh ft body k n e σ
instance sim_while [it : SimT Z E tt ft] [i1 : SimS Z E ts sa] : SimS Z E (tWhile tt ts) (aWhile ft sa) := ⟨fun {ρ σ H s e k D} r er h kn kr kx => by
  obtain ⟨n, h⟩ := h
  refine ⟨fun m s' H' => ∃ ρ' σ' e', Go Z.T ρ H ρ' H' ∧ Rel Z.K Z.T ρ' σ' H' ∧ ER Z.K ρ' H' s' e' ∧ aWh ft sa k m e' σ', ⟨n, ρ, σ, e, .refl, r, er, h⟩, ?_⟩
  rintro m s' H' ⟨ρ', σ', e', g', r', er', h'⟩
  cases m with
  | zero => exact h'.elim
  | succ m =>
    refine it.sim r' er' h' (fun _ _ _ b g1 r1 h1 => ?_) ((kx.go g').at_ r' er')
    cases b with
    | false => exact kn _ _ _ _ _ (g'.trans g1) r1 (g1.er r' er') h1
    | true =>
      refine ⟨fun s2 H2 => ∃ ρ' σ' e', Go Z.T ρ H ρ' H2 ∧ Rel Z.K Z.T ρ' σ' H2 ∧ ER Z.K ρ' H2 s2 e' ∧ aWh ft sa k m e' σ', fun s2 H2 n => ⟨m, by omega, n⟩, ?_⟩
      have g2 := g'.trans g1
      exact i1.sim r1 (g1.er r' er') h1 (fun ρ4 σ4 H4 s4 e4 g4 r4 er4 h4 => ⟨ρ4, σ4, e4, g2.trans g4, r4, er4, h4⟩) (kr.go g2) (kx.go g2)⟩
/-! ### defs -/
/-- a def that does as the abstract function does -/
def spA (Z : Zx) (n : Nat) (mf : AF) : Sp := fun vs H Q E => vs.length = n ∧ ∃ ρ σ ws Qa Ea, Rel Z.K Z.T ρ σ H ∧ WRs Z.K ρ H vs ws ∧ mf ws σ Qa Ea ∧ KQ Z ρ H Qa Q ∧ KX Z ρ H Ea E
def aCall (mf : AF) (n : Nat) (fr : AA) : AE := fun e σ Q X => fr e σ (fun ws σ1 => ws.length = n ∧ mf ws σ1 Q X) X
instance sim_call {mf : AF} {n : Nat} {F : XK} {t : TA} {fr : AA} [ir : SimA Z (fun _ => F) t fr] : SimE Z (fun _ => F) (tCall (spA Z n mf) [] F t) (aCall mf n fr) := ⟨fun r er h kq kx =>
  ir.sim r er h (fun ρ' σ' H' vs ws g r' v h' => by
    rw [List.append_nil]
    exact ⟨by rw [Paired.len v]; exact h'.1, ρ', σ', ws, _, _, r', v, h'.2, kq.go g, kx.go g⟩) kx⟩
/-- the slots at a def's start -/
theorem er_none {K : PySem.W.Frag} {ρ : List Addr} {H : Hp} : ∀ n : Nat, ER K ρ H (List.replicate n none) (List.replicate n none)
  | 0 => .nil
  | n + 1 => .cons trivial (er_none n)
theorem er_some {K : PySem.W.Frag} {ρ : List Addr} {H : Hp} : ∀ {vs : List V} {ws : List W}, WRs K ρ H vs ws → ER K ρ H (vs.map some) (ws.map some)
  | _, _, .nil => .nil
  | _, _, .cons h t => .cons h (er_some t)
theorem paired_app {α β : Type} {R : α → β → Prop} : ∀ {l l' : List α} {m m' : List β}, Paired R l m → Paired R l' m' → Paired R (l ++ l') (m ++ m')
  | _, _, _, _, .nil, h => h
  | _, _, _, _, .cons h t, h' => .cons h (paired_app t h')
def aStart (n : Nat) (ws : List W) : Ev := ws.map some ++ List.replicate (n - ws.length) none
/-- a def's body as a function -/
def aFn (n : Nat) (body : AS) : AF := fun ws σ Q X => body { nx := fun _ σ' => Q (.d .none) σ', rt := Q, ex := fun _ => X } (aStart n ws) σ
end
end Aw

/-! Aw4: reading data. -/
namespace Aw
open PySem PySem.Spec PyProof.Rows L2 Mw
def purePs : List (PyData × W) → Option (List (PyData × PyData))
  | [] => some []
  | (k, .d x) :: r => (purePs r).map ((k, x) :: ·)
  | _ :: _ => none
@[simp] theorem purePs_nil : purePs [] = some [] := rfl
@[simp] theorem purePs_d (k x : PyData) (r : List (PyData × W)) : purePs ((k, .d x) :: r) = (purePs r).map ((k, x) :: ·) := rfl
/-- the data that a value is now -/
def dat (σ : Sto) : W → Option PyData
  | .d x => some x
  | .ref i => match σ[i]? with
    | some (.lst ws) => (pures ws).map .list
    | some (.dct _ kvs) => (purePs kvs).map .dict
    | some (.lck _ kvs) => (purePs kvs).map .dict
    | none => none
  | .scr _ => none
@[simp] theorem dat_d (σ : Sto) (x : PyData) : dat σ (.d x) = some x := rfl
/-- .. the thing itself may be a cell -/
def Tp (K : PySem.W.Frag) (ρ : List Addr) (H : Hp) (v : V) : PyData → Prop
  | .list ds => ∃ a xs, v = .ref a ∧ Rd H a (.lst xs) ∧ RpAll K ρ H xs ds
  | .dict ds => ∃ a, v = .ref a ∧ ((∃ hk : List (Key × V), Rd H a (.dK hk) ∧ RpPs K ρ H (hk.map fun p => (kD p.1, p.2)) ds) ∨ ∃ hk : List (List Key × V), Rd H a (.dT hk) ∧ RpPs K ρ H (hk.map fun p => (kT p.1, p.2)) ds)
  | d => Rp K ρ H v d
section
variable {K : PySem.W.Frag} {T : Fx} {ρ : List Addr} {H : Hp} {σ : Sto} {v : V}
theorem Rp.tp : ∀ {d : PyData}, Rp K ρ H v d → Tp K ρ H v d
  | _, .non => Rp.non
  | _, .bl b => Rp.bl b
  | _, .int i => Rp.int i
  | _, .str x => Rp.str x
  | _, .lst h a => ⟨_, _, rfl, h.2, a⟩
  | _, .tup h a => Rp.tup h a
  | _, .dK n h a => ⟨_, rfl, .inl ⟨_, h, a⟩⟩
  | _, .dT n h a => ⟨_, rfl, .inr ⟨_, h, a⟩⟩
theorem purePs_rp : ∀ {vs : List (PyData × V)} {ws : List (PyData × W)} {ds : List (PyData × PyData)}, PRs K ρ H vs ws → purePs ws = some ds → RpPs K ρ H vs ds
  | _, _, ds, .nil, e => by cases e; exact .nil
  | (k', v) :: vs, (k, .d x) :: r, ds, .cons h t, e => by
    obtain ⟨ds', h1, rfl⟩ := Option.map_eq_some_iff.mp (show (purePs r).map ((k, x) :: ·) = some ds from e)
    obtain ⟨h2, h3⟩ := h
    cases (show k' = k from h2)
    exact .cons h3 (purePs_rp t h1)
  | _, (_, .ref _) :: _, _, .cons _ _, e => by cases e
  | _, (_, .scr _) :: _, _, .cons _ _, e => by cases e
theorem dat_tp (r : Rel K T ρ σ H) : ∀ {w : W} {d : PyData}, WR K ρ H v w → dat σ w = some d → Tp K ρ H v d
  | .d x, d, h, e => by cases e; exact Rp.tp h
  | .scr _, _, _, e => by cases e
  | .ref i, d, h, e => by
    obtain ⟨a, ha, rfl⟩ := h
    cases hc : σ[i]? with
    | none => simp [dat, hc] at e
    | some c =>
      have cr := r.cell i a c ha hc
      cases c with
      | lst ws =>
        obtain ⟨ds, h1, rfl⟩ := Option.map_eq_some_iff.mp (show (pures ws).map PyData.list = some d by simpa [dat, hc] using e)
        obtain ⟨xs, e1, e2⟩ := cr
        exact ⟨a, xs, rfl, .inl e1, pures_rp e2 h1⟩
      | dct t kvs =>
        obtain ⟨ds, h1, rfl⟩ := Option.map_eq_some_iff.mp (show (purePs kvs).map PyData.dict = some d by simpa [dat, hc] using e)
        cases t with
        | false =>
          obtain ⟨hk, e1, e2⟩ := cr
          exact ⟨a, rfl, .inl ⟨hk, .inl e1, purePs_rp e2 h1⟩⟩
        | true =>
          obtain ⟨hk, e1, e2⟩ := cr
          exact ⟨a, rfl, .inr ⟨hk, .inl e1, purePs_rp e2 h1⟩⟩
      | lck t kvs =>
        obtain ⟨ds, h1, rfl⟩ := Option.map_eq_some_iff.mp (show (purePs kvs).map PyData.dict = some d by simpa [dat, hc] using e)
        cases t with
        | false =>
          obtain ⟨hk, e1, e2⟩ := cr
          exact ⟨a, rfl, .inl ⟨hk, .inr e1, purePs_rp e2 h1⟩⟩
        | true =>
          obtain ⟨hk, e1, e2⟩ := cr
          exact ⟨a, rfl, .inr ⟨hk, .inr e1, purePs_rp e2 h1⟩⟩
mutual
theorem Rp.dp : ∀ {d : PyData} {v : V}, Rp K ρ H v d → d.canLay0 = true → Dp K H v d
  | _, _, .non, _ => .non
  | _, _, .bl b, _ => .bl b
  | _, _, .int i, _ => .int i
  | _, _, .str x, _ => .str x
  | .list ds, _, .lst h a, e => .lst (.inl h.2) (RpAll.dp a (by simpa [PyData.canLay0] using e))
  | .tuple ds, _, .tup h a, e => .tup (.inl (.inl h)) (RpAll.dp a (by simpa [PyData.canLay0] using e))
  | .dict ds, _, .dK n h a, e => by simp [PyData.canLay0] at e
  | .dict ds, _, .dT n h a, e => by simp [PyData.canLay0] at e
theorem RpAll.dp : ∀ {ds : List PyData} {vs : List V}, RpAll K ρ H vs ds → PyData.canLayAll0 ds = true → DpAll K H vs ds
  | _, _, .nil, _ => .nil
  | d :: ds, _, .cons h t, e => by
    have e' : d.canLay0 = true ∧ PyData.canLayAll0 ds = true := by simpa [PyData.canLayAll0] using e
    exact .cons (Rp.dp h e'.1) (RpAll.dp t e'.2)
end
theorem Tp.dp : ∀ {d : PyData}, Tp K ρ H v d → d.canLay0 = true → Dp K H v d
  | .none, h, e => Rp.dp h e
  | .bool _, h, e => Rp.dp h e
  | .int _, h, e => Rp.dp h e
  | .str _, h, e => Rp.dp h e
  | .tuple _, h, e => Rp.dp h e
  | .list ds, ⟨a, xs, ev, h, q⟩, e => by subst ev; exact .lst (.inl h) (RpAll.dp q (by simpa [PyData.canLay0] using e))
  | .dict _, _, e => by simp [PyData.canLay0] at e
theorem Tp.int {i : Int} (h : Tp K ρ H v (.int i)) : v = .int i := by
  have h : Rp K ρ H v (.int i) := h
  cases h
  rfl
theorem Tp.str {i : Str} (h : Tp K ρ H v (.str i)) : v = .str i := by
  have h : Rp K ρ H v (.str i) := h
  cases h
  rfl
theorem Tp.bool {i : Bool} (h : Tp K ρ H v (.bool i)) : v = .bl i := by
  have h : Rp K ρ H v (.bool i) := h
  cases h
  rfl
theorem Tp.none (h : Tp K ρ H v .none) : v = .non := by
  have h : Rp K ρ H v .none := h
  cases h
  rfl
theorem Tp.tup {ds : List PyData} (h : Tp K ρ H v (.tuple ds)) : ∃ a xs, v = .ref a ∧ H a = some (.tup xs) ∧ RpAll K ρ H xs ds := by
  have h : Rp K ρ H v (.tuple ds) := h
  cases h with
  | tup h1 h2 => exact ⟨_, _, rfl, h1, h2⟩
theorem rpAll_app : ∀ {xs ys : List V} {ds es : List PyData}, RpAll K ρ H xs ds → RpAll K ρ H ys es → RpAll K ρ H (xs ++ ys) (ds ++ es)
  | _, _, _, _, .nil, h => h
  | _, _, _, _, .cons h t, h' => .cons h (rpAll_app t h')
theorem rpAll_get : ∀ {xs : List V} {ds : List PyData} {i : Nat} {d : PyData}, RpAll K ρ H xs ds → ds[i]? = some d → ∃ x, xs[i]? = some x ∧ Rp K ρ H x d
  | _, _, _, _, .nil, e => by simp at e
  | _, _, 0, _, .cons r _, e => by simp at e; subst e; exact ⟨_, rfl, r⟩
  | _, _, i + 1, d, .cons _ t, e => by
    obtain ⟨u, h1, h2⟩ := rpAll_get (i := i) (d := d) t (by simpa using e)
    exact ⟨u, by simpa using h1, h2⟩
theorem rpAll_take : ∀ {xs : List V} {ds : List PyData} (n : Nat), RpAll K ρ H xs ds → RpAll K ρ H (xs.take n) (ds.take n)
  | _, _, 0, _ => by simp only [List.take_zero]; exact .nil
  | _, _, n + 1, .nil => by simp only [List.take_nil]; exact .nil
  | _, _, n + 1, .cons h t => by simp only [List.take_succ_cons]; exact .cons h (rpAll_take n t)
theorem rpAll_drop : ∀ {xs : List V} {ds : List PyData} (n : Nat), RpAll K ρ H xs ds → RpAll K ρ H (xs.drop n) (ds.drop n)
  | _, _, 0, h => by simpa using h
  | _, _, n + 1, .nil => by simp only [List.drop_nil]; exact .nil
  | _, _, n + 1, .cons h t => by simp only [List.drop_succ_cons]; exact rpAll_drop n t
end
/-- two-place operations on data -/
def ra2 (f : PyData → PyData → (PyData → Prop) → Prop) : W → W → Sto → QK → Prop := fun a b σ Q => ∃ x y, dat σ a = some x ∧ dat σ b = some y ∧ f x y fun z => Q (.d z) σ
def ra1 (f : PyData → (PyData → Prop) → Prop) : W → Sto → QK → Prop := fun a σ Q => ∃ x, dat σ a = some x ∧ f x fun z => Q (.d z) σ
/-- from a rule by data -/
theorem sim2 {Z : Zx} {r : R2} {f : PyData → PyData → (PyData → Prop) → Prop}
    (h : ∀ {ρ : List Addr} {σ : Sto} {H : Hp} {x y : V} {a b : PyData} {Qa : QK} {Q : VK}, Rel Z.K Z.T ρ σ H → Tp Z.K ρ H x a → Tp Z.K ρ H y b → f a b (fun z => Qa (.d z) σ) → KQ Z ρ H Qa Q → r x y H Q) : SimR2 Z r (ra2 f) :=
  ⟨fun rl v w q k => by
    obtain ⟨x, y, h1, h2, q⟩ := q
    exact h rl (dat_tp rl v h1) (dat_tp rl w h2) q k⟩
end Aw

/-! Aw5: operators on data. -/
namespace Aw
open PySem PySem.Spec PyProof.Rows L2 Mw
theorem OpR.or {X : Cx} {f : Value → Value → Sem Value} {r r' : R2} (h : OpR X f r) (h' : OpR X f r') : OpR X f (fun x y H Q => r x y H Q ∨ r' x y H Q) := by
  intro pins s σ H x y v u Q I rx ry q
  rcases q with q | q
  · exact h pins s σ H x y v u Q I rx ry q
  · exact h' pins s σ H x y v u Q I rx ry q
theorem CallR.or {X : Cx} {f : Value} {r r' : List V → Hp → VK → Prop} (h : CallR X f r) (h' : CallR X f r') : CallR X f (fun xs H Q => r xs H Q ∨ r' xs H Q) := by
  intro pins s σ H xs us Q I rx q
  rcases q with q | q
  · exact h pins s σ H xs us Q I rx q
  · exact h' pins s σ H xs us Q I rx q
section
variable {X : Cx} {K : PySem.W.Frag} {k : Nat}
theorem Room.u66 {A : Around} (r : Room k A) : A.units + 66 < cLine := by have := r.un; omega
theorem Room.u65 {A : Around} (r : Room k A) : A.units + 65 < cLine := by have := r.un; omega
theorem Room.u1 {A : Around} (r : Room k A) : A.units + 1 < cLine := by have := r.un; omega
theorem rd_lst {pins : List (Addr × Obj)} {σ : L2.St} {H : Hp} {s : Shared} {a : Addr} {xs : List V} (I : Inv X pins σ H s) (h : Rd H a (.lst xs)) :
    xs.length ≤ sizeLine ∧ ∃ (its : List Value) (n : Nat), Vals xs its ∧ s.heap.get? a = some { cls := .type "list", data := .seq its.toArray n } := h.ok I.hok
/-! ### + -/
def rCatL : R2 := fun x y H Q => ∃ l b xs zs, x = .ref l ∧ y = .ref b ∧ Rd H l (.lst xs) ∧ Rd H b (.lst zs) ∧ xs.length + zs.length ≤ sizeLine ∧ ∀ p, H p = none → Q (.ref p) (upd H p (.lst (xs ++ zs)))
theorem op_catL : OpR X (binaryOp .Add) rCatL := by
  intro pins s σ H x y v u Q I rx ry h
  obtain ⟨l, b, xs, zs, rfl, rfl, hH, hB, hz, q⟩ := h
  cases rx
  cases ry
  obtain ⟨z, its, n, r, e⟩ := rd_lst I hH
  obtain ⟨z2, its2, n2, r2, e2⟩ := rd_lst I hB
  have h1 := r.length
  have h2 := r2.length
  refine PySem.P.add_list e e2 ?_ (by rw [List.size_toArray, List.size_toArray]; omega)
  have ea : its.toArray ++ its2.toArray = (its ++ its2).toArray := by simp
  rw [ea]
  exact ⟨.ref _, _, I.lnew (t' := s.toks) (r.append r2) (by rw [List.length_append]; omega), rfl, q _ I.fresh⟩
def rAddU (K : PySem.W.Frag) : R2 := fun x y H Q => rI0 (fun i j => .int (i + j)) x y H Q ∨ (∃ i j, x = .str i ∧ y = .str j ∧ i.length + j.length ≤ sizeLine ∧ Q (.str (i ++ j)) H) ∨ rCatL x y H Q ∨ rCatA K x y H Q
theorem op_addU (hK : X.K = K) : OpR X (binaryOp .Add) (rAddU K) := by
  subst hK
  exact op_add.or (op_add_str.or (op_catL.or op_catA))
def addD : PyData → PyData → (PyData → Prop) → Prop
  | .int i, .int j, Q => Q (.int (i + j))
  | .str x, .str y, Q => x.length + y.length ≤ sizeLine ∧ Q (.str (x ++ y))
  | .list xs, .list ys, Q => xs.length + ys.length ≤ sizeLine ∧ Q (.list (xs ++ ys))
  | .tuple xs, .tuple ys, Q => xs.length + ys.length ≤ sizeLine ∧ Q (.tuple (xs ++ ys))
  | _, _, _ => False
variable {Z : Zx}
theorem rpAll_nil {K : PySem.W.Frag} {ρ : List Addr} {H : Hp} {ds : List PyData} (h : RpAll K ρ H [] ds) : ds = [] := by cases h; rfl
instance sim_addU : SimR2 Z (rAddU Z.K) (ra2 addD) := sim2 fun {ρ σ H x y a b Qa Q} rl h1 h2 q k => by
  cases a <;> cases b <;> first | exact q.elim | skip
  · exact .inl ⟨_, _, h1.int, h2.int, k.d .refl rl (Rp.int _) q⟩
  · exact .inr (.inl ⟨_, _, h1.str, h2.str, q.1, k.d .refl rl (Rp.str _) q.2⟩)
  · obtain ⟨a1, xs, rfl, e1, p1⟩ := h1
    obtain ⟨a2, ys, rfl, e2, p2⟩ := h2
    exact .inr (.inr (.inl ⟨_, _, _, _, rfl, rfl, e1, e2, by rw [rpAll_len p1, rpAll_len p2]; exact q.1, fun p n => k.layL rl n (rpAll_app p1 p2) q.2⟩))
  · obtain ⟨a1, xs, rfl, e1, p1⟩ := h1.tup
    obtain ⟨a2, ys, rfl, e2, p2⟩ := h2.tup
    refine .inr (.inr (.inr ⟨_, _, _, _, rfl, rfl, .inl (.inl e1), .inl (.inl e2), by rw [rpAll_len p1, rpAll_len p2]; exact q.1, fun e => ?_, fun _ e => ?_, fun _ _ p n => k.layT rl n (rpAll_app p1 p2) q.2⟩))
    · subst e
      have e' := rpAll_nil p1
      have q' := q.2
      subst e'
      exact k.d .refl rl (Rp.tup e2 p2) q'
    · subst e
      have e' := rpAll_nil p2
      have q' := q.2
      subst e'
      rw [List.append_nil] at q'
      exact k.d .refl rl (Rp.tup e1 p1) q'
/-! ### ints: - * // % ** and the minus -/
def rSubU : R2 := rI0 fun i j => .int (i - j)
theorem op_subU : OpR X (binaryOp .Sub) rSubU := op_sub
def subD : PyData → PyData → (PyData → Prop) → Prop
  | .int i, .int j, Q => Q (.int (i - j))
  | _, _, _ => False
instance sim_subU : SimR2 Z rSubU (ra2 subD) := sim2 fun {ρ σ H x y a b Qa Q} rl h1 h2 q k => by
  cases a <;> cases b <;> first | exact q.elim | skip
  exact ⟨_, _, h1.int, h2.int, k.d .refl rl (Rp.int _) q⟩
def CMulU (i j : Int) : Prop := CMul i j ∨ CMulW i j
def rMulU : R2 := fun x y H Q => rI CMul (fun i j => .int (i * j)) x y H Q ∨ rI CMulW (fun i j => .int (i * j)) x y H Q ∨ rMulS x y H Q
theorem op_mulU : OpR X (binaryOp .Mult) rMulU := op_mul.or (op_mulW.or op_mulS)
def mulD : PyData → PyData → (PyData → Prop) → Prop
  | .int i, .int j, Q => CMulU i j ∧ Q (.int (i * j))
  | .str z, .int n, Q => 0 ≤ n ∧ n ≤ 1000 ∧ z.length ≤ 1000 ∧ Q (.str (repS z n.toNat))
  | _, _, _ => False
instance sim_mulU : SimR2 Z rMulU (ra2 mulD) := sim2 fun {ρ σ H x y a b Qa Q} rl h1 h2 q k => by
  cases a <;> cases b <;> first | exact q.elim | skip
  · rcases q.1 with c | c
    · exact .inl ⟨_, _, h1.int, h2.int, c, k.d .refl rl (Rp.int _) q.2⟩
    · exact .inr (.inl ⟨_, _, h1.int, h2.int, c, k.d .refl rl (Rp.int _) q.2⟩)
  · exact .inr (.inr ⟨_, _, h1.str, h2.int, q.1, q.2.1, q.2.2.1, k.d .refl rl (Rp.str _) q.2.2.2⟩)
def rFdivU : R2 := fun x y H Q => rI CDiv (fun i j => .int (i / j)) x y H Q ∨ rI CDivW (fun i j => .int (i / j)) x y H Q
theorem op_fdivU : OpR X (binaryOp .FloorDiv) rFdivU := op_fdiv.or op_fdivW
def CDivU (i j : Int) : Prop := CDiv i j ∨ CDivW i j
def fdivD : PyData → PyData → (PyData → Prop) → Prop
  | .int i, .int j, Q => CDivU i j ∧ Q (.int (i / j))
  | _, _, _ => False
instance sim_fdivU : SimR2 Z rFdivU (ra2 fdivD) := sim2 fun {ρ σ H x y a b Qa Q} rl h1 h2 q k => by
  cases a <;> cases b <;> first | exact q.elim | skip
  rcases q.1 with c | c
  · exact .inl ⟨_, _, h1.int, h2.int, c, k.d .refl rl (Rp.int _) q.2⟩
  · exact .inr ⟨_, _, h1.int, h2.int, c, k.d .refl rl (Rp.int _) q.2⟩
def rModU : R2 := rI (fun _ j => 0 < j) fun i j => .int (i % j)
theorem op_modU : OpR X (binaryOp .Mod) rModU := op_mod
def modD : PyData → PyData → (PyData → Prop) → Prop
  | .int i, .int j, Q => 0 < j ∧ Q (.int (i % j))
  | _, _, _ => False
instance sim_modU : SimR2 Z rModU (ra2 modD) := sim2 fun {ρ σ H x y a b Qa Q} rl h1 h2 q k => by
  cases a <;> cases b <;> first | exact q.elim | skip
  exact ⟨_, _, h1.int, h2.int, q.1, k.d .refl rl (Rp.int _) q.2⟩
def rPowU : R2 := rI CPow fun i j => .int (i ^ j.toNat)
theorem op_powU : OpR X (binaryOp .Pow) rPowU := op_pow
def powD : PyData → PyData → (PyData → Prop) → Prop
  | .int i, .int j, Q => CPow i j ∧ Q (.int (i ^ j.toNat))
  | _, _, _ => False
instance sim_powU : SimR2 Z rPowU (ra2 powD) := sim2 fun {ρ σ H x y a b Qa Q} rl h1 h2 q k => by
  cases a <;> cases b <;> first | exact q.elim | skip
  exact ⟨_, _, h1.int, h2.int, q.1, k.d .refl rl (Rp.int _) q.2⟩
def rNegU : V → Hp → VK → Prop := rU fun i => .int (-i)
theorem un_negU : UnR X (unaryOp .USub) rNegU := un_neg
def negD : PyData → (PyData → Prop) → Prop
  | .int i, Q => Q (.int (-i))
  | _, _ => False
instance sim_negU : SimU Z rNegU (ra1 negD) := ⟨fun {ρ σ H x a Qa Q} rl h q k => by
  obtain ⟨d, h1, q⟩ := q
  have t := dat_tp rl h h1
  cases d <;> first | exact q.elim | skip
  exact ⟨_, t.int, k.d .refl rl (Rp.int _) q⟩⟩
/-! ### == and its like -/
def rEqU (K : PySem.W.Frag) : R2 := fun x y H Q => rEq x y H Q ∨ rEqD K x y H Q
def rNeU (K : PySem.W.Frag) : R2 := fun x y H Q => rNe x y H Q ∨ rNeD K x y H Q
theorem op_eqU (hK : X.K = K) (hr : Room k X.A) : OpR X (compareOp .Eq) (rEqU K) := by subst hK; exact op_eq.or (op_eqD hr.units)
theorem op_neU (hK : X.K = K) (hr : Room k X.A) : OpR X (compareOp .NotEq) (rNeU K) := by subst hK; exact op_ne.or (op_neD hr.units)
def eqD : PyData → PyData → Prop × Bool
  | .int i, .int j => (True, decide (i = j))
  | .str i, .str j => (True, decide (i = j))
  | .bool i, .bool j => (True, decide (i = j))
  | a, b => (SeqAt.shaped a = true ∧ SeqAt.shaped b = true, PyData.eqv a b)
def eqF (neg : Bool) : PyData → PyData → (PyData → Prop) → Prop := fun a b Q => (eqD a b).1 ∧ Q (.bool (if neg then !(eqD a b).2 else (eqD a b).2))
theorem sc_int (i j : Int) : scal (.int i) (.int j) = true := rfl
theorem sc_str (i j : Str) : scal (.str i) (.str j) = true := rfl
theorem sc_bl (i j : Bool) : scal (.bl i) (.bl j) = true := rfl
theorem de_int (i j : Int) : decide (V.int i = V.int j) = decide (i = j) := by simp
theorem de_str (i j : Str) : decide (V.str i = V.str j) = decide (i = j) := by simp
theorem de_bl (i j : Bool) : decide (V.bl i = V.bl j) = decide (i = j) := by simp
theorem sh_lay {d : PyData} (h : SeqAt.shaped d = true) : d.canLay0 = true := SeqAt.canLay_of_shaped h
theorem eq_sim (neg : Bool) {ρ : List Addr} {σ : Sto} {H : Hp} {x y : V} {a b : PyData} {Qa : QK} {Q : VK} (rl : Rel Z.K Z.T ρ σ H) (h1 : Tp Z.K ρ H x a) (h2 : Tp Z.K ρ H y b) (q : eqF neg a b (fun z => Qa (.d z) σ)) (k : KQ Z ρ H Qa Q) :
    (scal x y = true ∧ Q (.bl (if neg then !decide (x = y) else decide (x = y))) H) ∨ (∃ d e, Dp Z.K H x d ∧ Dp Z.K H y e ∧ SeqAt.shaped d = true ∧ SeqAt.shaped e = true ∧ Q (.bl (if neg then !PyData.eqv d e else PyData.eqv d e)) H) := by
  obtain ⟨q1, q2⟩ := q
  have gen : SeqAt.shaped a = true ∧ SeqAt.shaped b = true → Qa (.d (.bool (if neg then !PyData.eqv a b else PyData.eqv a b))) σ → (∃ d e, Dp Z.K H x d ∧ Dp Z.K H y e ∧ SeqAt.shaped d = true ∧ SeqAt.shaped e = true ∧ Q (.bl (if neg then !PyData.eqv d e else PyData.eqv d e)) H) :=
    fun z z' => ⟨a, b, h1.dp (sh_lay z.1), h2.dp (sh_lay z.2), z.1, z.2, k.d .refl rl (Rp.bl _) z'⟩
  cases a <;> cases b <;> first
    | (refine .inl ?_; rw [h1.int, h2.int, de_int]; exact ⟨rfl, k.d .refl rl (Rp.bl _) q2⟩)
    | (refine .inl ?_; rw [h1.str, h2.str, de_str]; exact ⟨rfl, k.d .refl rl (Rp.bl _) q2⟩)
    | (refine .inl ?_; rw [h1.bool, h2.bool, de_bl]; exact ⟨rfl, k.d .refl rl (Rp.bl _) q2⟩)
    | exact .inr (gen q1 q2)
instance sim_eqU : SimR2 Z (rEqU Z.K) (ra2 (eqF false)) := sim2 fun rl h1 h2 q k => eq_sim false rl h1 h2 q k
instance sim_neU : SimR2 Z (rNeU Z.K) (ra2 (eqF true)) := sim2 fun rl h1 h2 q k => eq_sim true rl h1 h2 q k
/-! ### < and its like -/
def okLt (a b : PyData) : Prop := PySem.W.alike a b = true ∧ a ≠ .none ∧ a.canLay0 = true ∧ b.canLay0 = true ∧ a.depth ≤ 60
/-- by data: f a b is told -/
def rOrd (K : PySem.W.Frag) (f : PyData → PyData → Bool) : R2 := fun x y H Q => ∃ d e, Dp K H x d ∧ Dp K H y e ∧ okLt d e ∧ Q (.bl (f d e)) H
def fLt (a b : PyData) : Bool := PySem.W.dataLt a b
def fGt (a b : PyData) : Bool := PySem.W.dataLt b a
def fLe (a b : PyData) : Bool := !PySem.W.dataLt b a
def fGe (a b : PyData) : Bool := !PySem.W.dataLt a b
theorem ord_of {op : CmpOp} {f : PyData → PyData → Bool} (hr : Room k X.A)
    (rule : ∀ {s : Shared} {a b : Value} {da db : PyData} {as bs : List Addr} {Q : Value → Shared → Prop}, Reads s.heap a da as → Reads s.heap b db bs → PySem.W.alike da db = true → da ≠ .none → X.A.units + min da.depth db.depth < cLine → Q (.bool (f da db)) s →
      wpAny (model X.prog X.w) X.A (compareOp op a b) Q X.xe s) : OpR X (compareOp op) (rOrd X.K f) := by
  intro pins s σ H x y v u Q I rx ry h
  obtain ⟨d, e, hd, he, ⟨ha, hn, _, _, hp⟩, q⟩ := h
  obtain ⟨as, ra⟩ := Dp.reads I _ x v hd rx
  obtain ⟨bs, rb⟩ := Dp.reads I _ y u he ry
  refine rule ra rb ha hn ?_ ⟨.bl _, H, I, rfl, q⟩
  have := hr.un
  omega
theorem op_ltU (hK : X.K = K) (hr : Room k X.A) : OpR X (compareOp .Lt) (rOrd K fLt) := by subst hK; exact ord_of hr fun a b c d e f => PySem.W.lt_data a b c d e f
theorem op_leU (hK : X.K = K) (hr : Room k X.A) : OpR X (compareOp .LtE) (rOrd K fLe) := by subst hK; exact ord_of hr fun a b c d e f => PySem.W.le_data a b c d e f
theorem op_gtU (hK : X.K = K) (hr : Room k X.A) : OpR X (compareOp .Gt) (rOrd K fGt) := by subst hK; exact ord_of hr fun a b c d e f => PySem.W.gt_data a b c d e f
theorem op_geU (hK : X.K = K) (hr : Room k X.A) : OpR X (compareOp .GtE) (rOrd K fGe) := by subst hK; exact ord_of hr fun a b c d e f => PySem.W.ge_data a b c d e f
def ordF (f : PyData → PyData → Bool) : PyData → PyData → (PyData → Prop) → Prop := fun a b Q => okLt a b ∧ Q (.bool (f a b))
instance sim_ord {f : PyData → PyData → Bool} : SimR2 Z (rOrd Z.K f) (ra2 (ordF f)) := sim2 fun rl h1 h2 q k =>
  ⟨_, _, h1.dp q.1.2.2.1, h2.dp q.1.2.2.2.1, q.1, k.d .refl rl (Rp.bl _) q.2⟩
theorem okLt_int (i j : Int) : okLt (.int i) (.int j) := ⟨by simp [PySem.W.alike], by nofun, by simp [PyData.canLay0], by simp [PyData.canLay0], by simp [PyData.depth]⟩
@[simp] theorem okLt_int' (i j : Int) : okLt (.int i) (.int j) = True := eq_true (okLt_int i j)
@[simp] theorem fLt_int (i j : Int) : fLt (.int i) (.int j) = decide (i < j) := PySem.W.dataLt_int i j
@[simp] theorem fGt_int (i j : Int) : fGt (.int i) (.int j) = decide (j < i) := PySem.W.dataLt_int j i
@[simp] theorem fLe_int (i j : Int) : fLe (.int i) (.int j) = decide (i ≤ j) := by
  unfold fLe
  rw [PySem.W.dataLt_int]
  by_cases h : j < i
  · rw [decide_eq_true h, decide_eq_false (by omega)]; rfl
  · rw [decide_eq_false h, decide_eq_true (by omega)]; rfl
@[simp] theorem fGe_int (i j : Int) : fGe (.int i) (.int j) = decide (j ≤ i) := by
  unfold fGe
  rw [PySem.W.dataLt_int]
  by_cases h : i < j
  · rw [decide_eq_true h, decide_eq_false (by omega)]; rfl
  · rw [decide_eq_false h, decide_eq_true (by omega)]; rfl
/-! ### is None -/
def isNo : W → Bool
  | .d .none => true
  | _ => false
def aIsN (fa : AE) : AE := fun e σ Q X => fa e σ (fun x σ1 => Q (.d (.bool (isNo x))) σ1) X
def aNotN (fa : AE) : AE := fun e σ Q X => fa e σ (fun x σ1 => Q (.d (.bool (!isNo x))) σ1) X
theorem isn_eq {K : PySem.W.Frag} {ρ : List Addr} {H : Hp} {v : V} : ∀ {w : W}, WR K ρ H v w → decide (v = .non) = isNo w
  | .d .none, h => by cases h; rfl
  | .d (.bool _), h => by cases h; rfl
  | .d (.int _), h => by cases h; rfl
  | .d (.str _), h => by cases h; rfl
  | .d (.list _), h => by cases h; rfl
  | .d (.tuple _), h => by cases h; rfl
  | .d (.dict _), h => by cases h <;> rfl
  | .ref _, ⟨a, _, e⟩ => by rw [e]; rfl
  | .scr _, ⟨a, e, _⟩ => by rw [e]; rfl
variable {E : L2.St → XK} {ta : TE} {fa : AE}
instance sim_isN [ia : SimE Z E ta fa] : SimE Z E (tIsN ta) (aIsN fa) := ⟨fun r er h k kx =>
  ia.sim r er h (fun _ _ _ _ _ g1 r1 v1 h1 => by rw [isn_eq v1]; exact k.d g1 r1 (Rp.bl _) h1) kx⟩
instance sim_notN [ia : SimE Z E ta fa] : SimE Z E (tNotN ta) (aNotN fa) := ⟨fun r er h k kx =>
  ia.sim r er h (fun _ _ _ _ w g1 r1 v1 h1 => by
    rw [isn_eq v1]; exact k.d g1 r1 (Rp.bl _) h1) kx⟩
end
end Aw

/-! Aw6: dicts, places, membership, len. -/
namespace Aw
open PySem PySem.Spec PyProof.Rows L2 Mw
section
variable {α : Type}
open Classical in
noncomputable def dget (kvs : List (PyData × α)) (k : PyData) : Option α := (kvs.find? fun p => decide (p.1 = k)).map (·.2)
open Classical in
noncomputable def dput (kvs : List (PyData × α)) (k : PyData) (v : α) : List (PyData × α) :=
  if (kvs.any fun p => decide (p.1 = k)) = true then kvs.map (fun p => if p.1 = k then (p.1, v) else p) else kvs ++ [(k, v)]
theorem dget_nil (k : PyData) : dget ([] : List (PyData × α)) k = none := rfl
theorem dget_pos {p : PyData × α} {r : List (PyData × α)} {k : PyData} (e : p.1 = k) : dget (p :: r) k = some p.2 := by simp [dget, List.find?_cons, e]
theorem dget_neg {p : PyData × α} {r : List (PyData × α)} {k : PyData} (e : ¬ p.1 = k) : dget (p :: r) k = dget r k := by simp [dget, List.find?_cons, e]
open Classical in
theorem dget_any (k : PyData) : ∀ kvs : List (PyData × α), (kvs.any fun p => decide (p.1 = k)) = (dget kvs k).isSome
  | [] => rfl
  | p :: r => by
    by_cases h : p.1 = k
    · rw [List.any_cons, dget_pos h, decide_eq_true h]; rfl
    · rw [List.any_cons, dget_neg h, decide_eq_false h, Bool.false_or, dget_any k r]
open Classical in
theorem dput_new {kvs : List (PyData × α)} {k : PyData} {v : α} (h : dget kvs k = none) : dput kvs k v = kvs ++ [(k, v)] := by
  unfold dput
  rw [dget_any, h]
  rfl
open Classical in
theorem dput_old {kvs : List (PyData × α)} {k : PyData} {v w : α} (h : dget kvs k = some w) : dput kvs k v = kvs.map fun p => if p.1 = k then (p.1, v) else p := by
  unfold dput
  rw [dget_any, h]
  rfl
open Classical in
theorem dget_snoc (k j : PyData) (y : α) : ∀ kvs : List (PyData × α), dget kvs k = none → dget (kvs ++ [(k, y)]) j = if j = k then some y else dget kvs j
  | [], _ => by
    by_cases h : j = k
    · rw [if_pos h]; exact dget_pos h.symm
    · rw [if_neg h]; exact dget_neg (fun z => h z.symm)
  | p :: r, h => by
    have hp : ¬ p.1 = k := fun z => by rw [dget_pos z] at h; cases h
    rw [dget_neg hp] at h
    by_cases hj : p.1 = j
    · rw [List.cons_append, dget_pos hj, if_neg (fun z => hp (hj.trans z)), dget_pos hj]
    · rw [List.cons_append, dget_neg hj, dget_snoc k j y r h, dget_neg hj]
open Classical in
theorem dget_map (k j : PyData) (y : α) : ∀ kvs : List (PyData × α), dget (kvs.map fun p => if p.1 = k then (p.1, y) else p) j = (dget kvs j).map fun x => if j = k then y else x
  | [] => rfl
  | p :: r => by
    have hk : (if p.1 = k then (p.1, y) else p).1 = p.1 := by split <;> rfl
    by_cases hj : p.1 = j
    · rw [List.map_cons, dget_pos (hk.trans hj), dget_pos hj, Option.map_some]
      by_cases h : p.1 = k
      · rw [if_pos h, if_pos (hj.symm.trans h)]
      · rw [if_neg h, if_neg (fun z => h (hj.trans z))]
    · rw [List.map_cons, dget_neg (fun z => hj (hk.symm.trans z)), dget_neg hj, dget_map k j y r]
open Classical in
theorem dget_dput (kvs : List (PyData × α)) (k j : PyData) (y : α) : dget (dput kvs k y) j = if j = k then some y else dget kvs j := by
  cases h : dget kvs k with
  | none => rw [dput_new h, dget_snoc k j y kvs h]
  | some w =>
    rw [dput_old h, dget_map]
    by_cases e : j = k
    · subst e; rw [h, if_pos rfl]; simp
    · rw [if_neg e]; simp [e]
theorem length_dput (kvs : List (PyData × α)) (k : PyData) (v : α) : (dput kvs k v).length ≤ kvs.length + 1 := by
  unfold dput
  split
  · rw [List.length_map]; omega
  · rw [List.length_append]; exact Nat.le_refl _
/-- the keys -/
def keys (kvs : List (PyData × α)) : List PyData := kvs.map (·.1)
theorem keys_dput_new {kvs : List (PyData × α)} {k : PyData} {v : α} (h : dget kvs k = none) : keys (dput kvs k v) = keys kvs ++ [k] := by
  rw [dput_new h]; simp [keys]
open Classical in
theorem keys_dput_old {kvs : List (PyData × α)} {k : PyData} {v w : α} (h : dget kvs k = some w) : keys (dput kvs k v) = keys kvs := by
  rw [dput_old h]
  simp only [keys, List.map_map]
  refine List.map_congr_left fun p _ => ?_
  show (if p.1 = k then (p.1, v) else p).1 = p.1
  split <;> rfl
end
theorem kD_inj : ∀ {a b : Key}, kD a = kD b → a = b
  | .inl i, .inl j, h => by cases h; rfl
  | .inr i, .inr j, h => by cases h; rfl
  | .inl i, .inr j, h => by cases h
  | .inr i, .inl j, h => by cases h
theorem kT_inj {a b : List Key} (h : kT a = kT b) : a = b := by
  unfold kT at h
  injection h with h
  exact List.map_inj_right (fun x y => kD_inj) |>.mp h
section
variable {K : PySem.W.Frag} {ρ : List Addr} {H : Hp} {κ : Type} [DecidableEq κ] {f : κ → PyData}
def ORw (K : PySem.W.Frag) (ρ : List Addr) (H : Hp) : Option V → Option W → Prop
  | some v, some w => WR K ρ H v w
  | none, none => True
  | _, _ => False
theorem prs_get (inj : ∀ a b, f a = f b → a = b) (k : κ) : ∀ {hk : List (κ × V)} {kvs : List (PyData × W)}, PRs K ρ H (hk.map fun p => (f p.1, p.2)) kvs → ORw K ρ H (valV hk k) (dget kvs (f k))
  | [], _, h => by
    cases h
    exact True.intro
  | p :: hk, _, h => by
    cases h with
    | @cons a b as bs h t =>
      obtain ⟨h1, h2⟩ := h
      by_cases e : p.1 = k
      · rw [valV_pos e, dget_pos (by rw [← h1, ← e])]
        exact h2
      · rw [valV_neg e, dget_neg (fun z => e (inj _ _ (h1.trans z)))]
        exact prs_get inj k t
theorem prs_len : ∀ {hk : List (κ × V)} {kvs : List (PyData × W)}, PRs K ρ H (hk.map fun p => (f p.1, p.2)) kvs → hk.length = kvs.length := fun h => by
  have := Paired.len h
  rwa [List.length_map] at this
theorem prs_map (inj : ∀ a b, f a = f b → a = b) (k : κ) {v : V} {w : W} (hv : WR K ρ H v w) : ∀ {hk : List (κ × V)} {kvs : List (PyData × W)}, PRs K ρ H (hk.map fun p => (f p.1, p.2)) kvs →
    PRs K ρ H ((hk.map fun kv => if kv.1 = k then (kv.1, v) else kv).map fun p => (f p.1, p.2)) (kvs.map (open Classical in fun p => if p.1 = f k then (p.1, w) else p))
  | [], _, h => by
    cases h
    exact .nil
  | p :: hk, _, h => by
    cases h with
    | @cons a b as bs h t =>
      obtain ⟨h1, h2⟩ := h
      simp only [List.map_cons]
      refine .cons ?_ (prs_map inj k hv t)
      by_cases e : p.1 = k
      · rw [if_pos e, if_pos (by rw [← h1, ← e])]
        exact ⟨h1, hv⟩
      · rw [if_neg e, if_neg (fun z => e (inj _ _ (h1.trans z)))]
        exact ⟨h1, h2⟩
theorem prs_put (inj : ∀ a b, f a = f b → a = b) (k : κ) {v : V} {w : W} (hv : WR K ρ H v w) {hk : List (κ × V)} {kvs : List (PyData × W)} (h : PRs K ρ H (hk.map fun p => (f p.1, p.2)) kvs) :
    PRs K ρ H ((putK hk k v).map fun p => (f p.1, p.2)) (dput kvs (f k) w) := by
  have g := prs_get inj k h
  cases h1 : valV hk k with
  | none =>
    rw [h1] at g
    cases h2 : dget kvs (f k) with
    | some y => rw [h2] at g; exact g.elim
    | none =>
      rw [dput_new h2]
      unfold putK
      rw [valV_any, h1]
      show PRs K ρ H ((hk ++ [(k, v)]).map fun p => (f p.1, p.2)) _
      rw [List.map_append]
      exact paired_app h (.cons ⟨rfl, hv⟩ .nil)
  | some x =>
    rw [h1] at g
    cases h2 : dget kvs (f k) with
    | none => rw [h2] at g; exact g.elim
    | some y =>
      rw [dput_old h2]
      unfold putK
      rw [valV_any, h1]
      exact prs_map inj k hv h
/-- data pairs are pairs -/
theorem rpPs_prs : ∀ {vs : List (PyData × V)} {ds : List (PyData × PyData)}, RpPs K ρ H vs ds → PRs K ρ H vs (ds.map fun p => (p.1, .d p.2))
  | _, _, .nil => .nil
  | _, _, .cons h t => .cons ⟨rfl, h⟩ (rpPs_prs t)
end
/-! ### keys -/
/-- a key of the first kind: a number, a text -/
def isK : PyData → Bool
  | .int _ => true
  | .str _ => true
  | _ => false
def isKT : PyData → Bool
  | .tuple ds => ds.all isK
  | _ => false
theorem isK_of : ∀ {d : PyData}, isK d = true → ∃ k, d = kD k
  | .int i, _ => ⟨.inl i, rfl⟩
  | .str i, _ => ⟨.inr i, rfl⟩
theorem isKs_of : ∀ {ds : List PyData}, ds.all isK = true → ∃ ks : List Key, ds = ks.map kD
  | [], _ => ⟨[], rfl⟩
  | d :: ds, h => by
    rw [List.all_cons, Bool.and_eq_true] at h
    obtain ⟨k, rfl⟩ := isK_of h.1
    obtain ⟨ks, rfl⟩ := isKs_of h.2
    exact ⟨k :: ks, rfl⟩
theorem isKT_of : ∀ {d : PyData}, isKT d = true → ∃ ks, d = kT ks
  | .tuple ds, h => by
    obtain ⟨ks, rfl⟩ := isKs_of h
    exact ⟨ks, rfl⟩
section
variable {K : PySem.W.Frag} {T : Fx} {ρ : List Addr} {H : Hp} {σ : Sto} {v : V}
theorem rp_key : ∀ {k : Key}, Rp K ρ H v (kD k) → v = kV k
  | .inl i, h => by cases h; rfl
  | .inr i, h => by cases h; rfl
theorem rp_keys : ∀ {ks : List Key} {xs : List V}, RpAll K ρ H xs (ks.map kD) → xs = ks.map kV
  | [], _, h => by cases h; rfl
  | k :: ks, _, h => by
    cases h with
    | cons h t => rw [rp_key h, rp_keys t]; rfl
theorem rp_keyT {ks : List Key} (h : Rp K ρ H v (kT ks)) : ∃ b, v = .ref b ∧ H b = some (.tup (ks.map kV)) := by
  have h : Rp K ρ H v (.tuple (ks.map kD)) := h
  cases h with
  | tup h1 h2 => exact ⟨_, rfl, by rw [← rp_keys h2]; exact h1⟩
theorem tp_key {k : Key} (h : Tp K ρ H v (kD k)) : v = kV k := by
  cases k <;> exact rp_key h
theorem tp_keyT {ks : List Key} (h : Tp K ρ H v (kT ks)) : ∃ b, v = .ref b ∧ H b = some (.tup (ks.map kV)) := rp_keyT h
end
end Aw

/-! Aw7: what dicts are asked; in; places. -/
namespace Aw
open PySem PySem.Spec PyProof.Rows L2 Mw
/-- what the dict at a holds at y, an empty one of either kind -/
def DG (H : Hp) (a : Addr) (y : V) (r : Option V) : Prop :=
  DGet H a y r ∨ (r = none ∧ ((∃ (k : List Key) (b : Addr), Rd H a (.dK []) ∧ y = .ref b ∧ H b = some (.tup (k.map kV))) ∨ ∃ k : Key, Rd H a (.dT []) ∧ y = kV k))
section
variable {X : Cx} {pins : List (Addr × Obj)} {σ : L2.St} {H : Hp} {s : Shared} {a : Addr} {y v : V} {u r : Value} {o : Option V} {A : Around} {E : Value → Shared → Prop}
theorem dk_dt {P : Program} {w : World} {h : Heap} {a : Addr} (d : h.DictOf (mixKind P w) a []) : h.DictOfH (tupleKind (mixKind P w)) a [] := by
  obtain ⟨o, es, ep, h1, h2, h3, h4, h5, h6⟩ := d
  refine ⟨o, es, ep, h1, h2, h3, ?_, (fun x hx => by cases hx), by simp⟩
  generalize es.toList = l at h5
  cases h5
  rfl
theorem dt_dk {P : Program} {w : World} {h : Heap} {a : Addr} (d : h.DictOfH (tupleKind (mixKind P w)) a []) : h.DictOf (mixKind P w) a [] := by
  obtain ⟨o, es, ep, h1, h2, h3, h4, h5, h6⟩ := d
  have e : es = #[] := by
    have : es.toList = [] := h4
    exact Array.toList_eq_nil_iff.mp this
  subst e
  exact ⟨o, #[], ep, h1, h2, h3, (fun i hi => by simp at hi), .nil, by simp⟩
theorem dg_in {Q : Value → Shared → Prop} (hu : A.units + 1 < cLine) (I : Inv X pins σ H s) (g : DG H a y o) (ry : RelV y u) (h : ∀ s', Inv X pins σ H s' → Q (.bool o.isSome) s') :
    wpAny (model X.prog X.w) A (compareOp .In u (.ref a)) Q E s := by
  rcases g with g | ⟨rfl, ⟨k, b, e, ey, eb⟩ | ⟨k, e, ey⟩⟩
  · exact d_in hu I g ry h
  · subst ey
    cases (show u = Value.ref b from ry)
    obtain ⟨z, hd, vs, rel, dd⟩ := dk_rd I.hok e
    cases rel
    exact wpAny_in_heap (tupleKind_room_in1 hu) (key_of I.hok eb) hd (dk_dt dd) (h _ (I.tok _))
  · subst ey
    obtain ⟨z, hd, xs, rel, dd⟩ := dt_rd I.hok e
    cases rel
    exact wpAny_in_of (kV_is ry) hd (dt_dk dd).mapOf (h _ (I.tok _))
theorem dg_notIn {Q : Value → Shared → Prop} (hu : A.units + 1 < cLine) (I : Inv X pins σ H s) (g : DG H a y o) (ry : RelV y u) (h : ∀ s', Inv X pins σ H s' → Q (.bool (!o.isSome)) s') :
    wpAny (model X.prog X.w) A (compareOp .NotIn u (.ref a)) Q E s := by
  rcases g with g | ⟨rfl, ⟨k, b, e, ey, eb⟩ | ⟨k, e, ey⟩⟩
  · exact d_notIn hu I g ry h
  · subst ey
    cases (show u = Value.ref b from ry)
    obtain ⟨z, hd, vs, rel, dd⟩ := dk_rd I.hok e
    cases rel
    exact wpAny_notIn_heap (tupleKind_room_in1 hu) (key_of I.hok eb) hd (dk_dt dd) (h _ (I.tok _))
  · subst ey
    obtain ⟨z, hd, xs, rel, dd⟩ := dt_rd I.hok e
    cases rel
    exact wpAny_notIn_of (kV_is ry) hd (dt_dk dd).mapOf (h _ (I.tok _))
end
/-! ### the pairs of a dict -/
def prsOf (σ : Sto) : W → Option (List (PyData × W))
  | .d (.dict ds) => some (ds.map fun p => (p.1, .d p.2))
  | .ref i => match σ[i]? with
    | some (.dct _ kvs) => some kvs
    | some (.lck _ kvs) => some kvs
    | _ => none
  | _ => none
def seqOf (σ : Sto) (w : W) : Option (List PyData) := match dat σ w with
  | some (.list ys) => some ys
  | some (.tuple ys) => some ys
  | _ => none
/-- a key may be asked: the keys there are of its kind -/
def keyC (kvs : List (PyData × W)) (k : PyData) : Prop := (isK k = true ∧ ∀ p ∈ kvs, isK p.1 = true) ∨ (isKT k = true ∧ ∀ p ∈ kvs, isKT p.1 = true)
section
variable {K : PySem.W.Frag} {T : Fx} {ρ : List Addr} {H : Hp} {σ : Sto} {v x : V}
theorem prs_keys {κ : Type} {f : κ → PyData} {φ : PyData → Bool} : ∀ {hk : List (κ × V)} {kvs : List (PyData × W)}, PRs K ρ H (hk.map fun p => (f p.1, p.2)) kvs → (∀ p ∈ kvs, φ p.1 = true) → (∀ a, φ (f a) = false) → hk = [] ∧ kvs = []
  | [], _, h, _, _ => by cases h; exact ⟨rfl, rfl⟩
  | p :: hk, _, h, h1, h2 => by
    cases h with
    | @cons a b as bs h t =>
      have := h1 b (by simp)
      rw [← h.1] at this
      rw [h2 p.1] at this
      cases this
theorem isK_kT (ks : List Key) : isK (kT ks) = false := rfl
theorem isKT_kD (k : Key) : isKT (kD k) = false := by cases k <;> rfl
theorem dg_of {a : Addr} {kvs : List (PyData × W)} {d : PyData} (h : (∃ hk : List (Key × V), Rd H a (.dK hk) ∧ PRs K ρ H (hk.map fun p => (kD p.1, p.2)) kvs) ∨ ∃ hk : List (List Key × V), Rd H a (.dT hk) ∧ PRs K ρ H (hk.map fun p => (kT p.1, p.2)) kvs)
    (hc : keyC kvs d) (t : Tp K ρ H x d) : ∃ o, DG H a x o ∧ ORw K ρ H o (dget kvs d) ∧ (o.isSome = true → DGet H a x o) := by
  rcases h with ⟨hk, r, p⟩ | ⟨hk, r, p⟩
  · rcases hc with ⟨c1, c2⟩ | ⟨c1, c2⟩
    · obtain ⟨k, rfl⟩ := isK_of c1
      have g : DGet H a x (valV hk k) := .inl ⟨hk, k, r, tp_key t, rfl⟩
      exact ⟨_, .inl g, prs_get (fun _ _ => kD_inj) k p, fun _ => g⟩
    · obtain ⟨e1, e2⟩ := prs_keys p c2 isKT_kD
      subst e1 e2
      obtain ⟨ks, rfl⟩ := isKT_of c1
      obtain ⟨b, e3, e4⟩ := tp_keyT t
      exact ⟨none, .inr ⟨rfl, .inl ⟨ks, b, r, e3, e4⟩⟩, True.intro, fun z => by cases z⟩
  · rcases hc with ⟨c1, c2⟩ | ⟨c1, c2⟩
    · obtain ⟨e1, e2⟩ := prs_keys p c2 isK_kT
      subst e1 e2
      obtain ⟨k, rfl⟩ := isK_of c1
      exact ⟨none, .inr ⟨rfl, .inr ⟨k, r, tp_key t⟩⟩, True.intro, fun z => by cases z⟩
    · obtain ⟨ks, rfl⟩ := isKT_of c1
      obtain ⟨b, e3, e4⟩ := tp_keyT t
      have g : DGet H a x (valV hk ks) := .inr ⟨hk, ks, b, r, e3, e4, rfl⟩
      exact ⟨_, .inl g, prs_get (fun _ _ => kT_inj) ks p, fun _ => g⟩
theorem prsOf_rd (r : Rel K T ρ σ H) : ∀ {w : W} {kvs : List (PyData × W)}, WR K ρ H v w → prsOf σ w = some kvs →
    ∃ a, v = .ref a ∧ ((∃ hk : List (Key × V), Rd H a (.dK hk) ∧ PRs K ρ H (hk.map fun p => (kD p.1, p.2)) kvs) ∨ ∃ hk : List (List Key × V), Rd H a (.dT hk) ∧ PRs K ρ H (hk.map fun p => (kT p.1, p.2)) kvs)
  | .d (.dict ds), kvs, h, e => by
    cases e
    have h : Rp K ρ H v (.dict ds) := h
    cases h with
    | dK n h1 h2 => exact ⟨_, rfl, .inl ⟨_, h1, rpPs_prs h2⟩⟩
    | dT n h1 h2 => exact ⟨_, rfl, .inr ⟨_, h1, rpPs_prs h2⟩⟩
  | .ref i, kvs, h, e => by
    obtain ⟨a, ha, rfl⟩ := h
    cases hc : σ[i]? with
    | none => simp [prsOf, hc] at e
    | some c =>
      have cr := r.cell i a c ha hc
      cases c with
      | lst ws => simp [prsOf, hc] at e
      | dct t kv =>
        have e' : kv = kvs := by simpa [prsOf, hc] using e
        subst e'
        cases t with
        | false =>
          obtain ⟨hk, e1, e2⟩ := cr
          exact ⟨a, rfl, .inl ⟨hk, .inl e1, e2⟩⟩
        | true =>
          obtain ⟨hk, e1, e2⟩ := cr
          exact ⟨a, rfl, .inr ⟨hk, .inl e1, e2⟩⟩
      | lck t kv =>
        have e' : kv = kvs := by simpa [prsOf, hc] using e
        subst e'
        cases t with
        | false =>
          obtain ⟨hk, e1, e2⟩ := cr
          exact ⟨a, rfl, .inl ⟨hk, .inr e1, e2⟩⟩
        | true =>
          obtain ⟨hk, e1, e2⟩ := cr
          exact ⟨a, rfl, .inr ⟨hk, .inr e1, e2⟩⟩
  | .d .none, _, _, e => by cases e
  | .d (.bool _), _, _, e => by cases e
  | .d (.int _), _, _, e => by cases e
  | .d (.str _), _, _, e => by cases e
  | .d (.list _), _, _, e => by cases e
  | .d (.tuple _), _, _, e => by cases e
  | .scr _, _, _, e => by cases e
theorem ORw.isSome : ∀ {o : Option V} {w : Option W}, ORw K ρ H o w → o.isSome = w.isSome
  | some _, some _, _ => rfl
  | none, none, _ => rfl
end
/-! ### in -/
def rInU (K : PySem.W.Frag) (neg : Bool) : R2 := fun x y H Q => (∃ a o, y = .ref a ∧ DG H a x o ∧ Q (.bl (if neg then !o.isSome else o.isSome)) H) ∨
  (∃ d ds, Dp K H x d ∧ (Dp K H y (.list ds) ∨ Dp K H y (.tuple ds)) ∧ SeqAt.shaped d = true ∧ SeqAt.shaped (.tuple ds) = true ∧ Q (.bl (if neg then !ds.any (fun z => PyData.eqv z d) else ds.any (fun z => PyData.eqv z d))) H)
theorem sh_tl (ds : List PyData) : SeqAt.shaped (.list ds) = SeqAt.shaped (.tuple ds) := by
  simp [SeqAt.shaped, PyData.canLay0, PyData.depth]
section
variable {X : Cx} {K : PySem.W.Frag} {k : Nat} {Z : Zx}
theorem op_inU (hK : X.K = K) (hr : Room k X.A) : OpR X (compareOp .In) (rInU K false) := by
  subst hK
  intro pins s σ H x y v u Q I rx ry q
  rcases q with ⟨a, o, rfl, g, q⟩ | ⟨d, ds, h1, h2 | h2, h3, h4, q⟩
  · cases ry
    exact dg_in (Room.u1 hr) I g rx fun s' I' => ⟨.bl _, H, I', rfl, q⟩
  · exact op_inD (Room.u65 hr) pins s σ H x y v u Q I rx ry ⟨d, ds, h1, h2, h3, by rw [sh_tl]; exact h4, q⟩
  · exact op_inT (Room.u66 hr) pins s σ H x y v u Q I rx ry ⟨d, ds, h1, h2, h3, h4, q⟩
theorem op_notInU (hK : X.K = K) (hr : Room k X.A) : OpR X (compareOp .NotIn) (rInU K true) := by
  subst hK
  intro pins s σ H x y v u Q I rx ry q
  rcases q with ⟨a, o, rfl, g, q⟩ | ⟨d, ds, h1, h2 | h2, h3, h4, q⟩
  · cases ry
    exact dg_notIn (Room.u1 hr) I g rx fun s' I' => ⟨.bl _, H, I', rfl, q⟩
  · exact op_notInD (Room.u65 hr) pins s σ H x y v u Q I rx ry ⟨d, ds, h1, h2, h3, by rw [sh_tl]; exact h4, q⟩
  · exact op_notInT (Room.u66 hr) pins s σ H x y v u Q I rx ry ⟨d, ds, h1, h2, h3, h4, q⟩
noncomputable def inW (neg : Bool) : W → W → Sto → QK → Prop := fun a b σ Q => ∃ x, dat σ a = some x ∧ match prsOf σ b with
  | some kvs => keyC kvs x ∧ Q (.d (.bool (if neg then !(dget kvs x).isSome else (dget kvs x).isSome))) σ
  | none => ∃ ys, seqOf σ b = some ys ∧ SeqAt.shaped x = true ∧ SeqAt.shaped (.tuple ys) = true ∧ Q (.d (.bool (if neg then !ys.any (fun z => PyData.eqv z x) else ys.any (fun z => PyData.eqv z x)))) σ
instance sim_inU {neg : Bool} : SimR2 Z (rInU Z.K neg) (inW neg) := ⟨fun {ρ σ H x y a b Qa Q} rl va vb q kq => by
  obtain ⟨d, hd, q⟩ := q
  have td := dat_tp rl va hd
  cases hp : prsOf σ b with
  | some kvs =>
    rw [hp] at q
    obtain ⟨ad, rfl, rd⟩ := prsOf_rd rl vb hp
    obtain ⟨o, g, rr, _⟩ := dg_of rd q.1 td
    refine .inl ⟨ad, o, rfl, g, ?_⟩
    rw [rr.isSome]
    exact kq.d .refl rl (Rp.bl _) q.2
  | none =>
    rw [hp] at q
    obtain ⟨ys, h1, h2, h3, q⟩ := q
    have lay : PyData.canLayAll0 ys = true := by
      have := sh_lay h3
      simpa [PyData.canLay0] using this
    refine .inr ⟨d, ys, td.dp (sh_lay h2), ?_, h2, h3, kq.d .refl rl (Rp.bl _) q⟩
    unfold seqOf at h1
    cases h4 : dat σ b with
    | none => rw [h4] at h1; cases h1
    | some dd =>
      rw [h4] at h1
      have tb := dat_tp rl vb h4
      cases dd <;> first | (cases h1; done) | skip
      · cases h1
        exact .inl (tb.dp (by simpa [PyData.canLay0] using lay))
      · cases h1
        exact .inr (tb.dp (by simpa [PyData.canLay0] using lay))⟩
end
end Aw

/-! Aw8: places and slices. -/
namespace Aw
open PySem PySem.Spec PyProof.Rows L2 Mw
section
variable {X : Cx} {K : PySem.W.Frag} {k : Nat} {Z : Zx}
def rIxD : R2 := fun x y H Q => ∃ a v, x = .ref a ∧ DGet H a y (some v) ∧ Q v H
theorem ix_dict (hr : Room k X.A) : IxR X rIxD := by
  intro value slice pins s σ H x y v u Q I rx ry h hs
  obtain ⟨a, z, rfl, g, q⟩ := h
  cases rx
  have hu := Room.u1 hr
  have ty := dict_typeIs I g
  rcases g with ⟨kvs, k, e, ey, l⟩ | ⟨kvs, k, b, e, ey, eb, l⟩
  · subst ey
    obtain ⟨zz, hd, vs, rel, dd⟩ := dk_rd I.hok e
    obtain ⟨w', hw, rw'⟩ := RelO.some_of (v := z) (o := valueAt vs k) (by rw [l]; exact rel.val k)
    exact subscriptTail_builtinR (x := w') ty PySem.F.slot_dict_getitem.lookup (wpAny_getItem_of (kV_is ry) dd.mapOf hw ⟨rfl, z, H, I.tok _, rw', q⟩) hs
  · subst ey
    cases (show u = Value.ref b from ry)
    obtain ⟨zz, hd, xs, rel, dd⟩ := dt_rd I.hok e
    obtain ⟨w', hw, rw'⟩ := RelO.some_of (v := z) (o := (atKey xs k).map (·.2)) (by rw [l]; exact rel.val k)
    obtain ⟨p, hp, hp2⟩ := Option.map_eq_some_iff.mp hw
    refine subscriptTail_builtinR (x := w') ty PySem.F.slot_dict_getitem.lookup (wpAny_getItem_heap (tupleKind_room_in1 hu) (key_of I.hok eb) dd hp ?_) hs
    rw [hp2]
    exact ⟨rfl, z, H, I.tok _, rw', q⟩
def rIxU (K : PySem.W.Frag) : R2 := fun x y H Q => rIxL K x y H Q ∨ rIxT K x y H Q ∨ rIxS x y H Q ∨ rIxD x y H Q
theorem ix_U (hK : X.K = K) (hr : Room k X.A) : IxR X (rIxU K) := by
  subst hK
  exact ix_list.or (ix_tup.or (ix_str.or (ix_dict hr)))
/-- the items of a list or a tuple, as they are now -/
def itemsOf (σ : Sto) : W → Option (List W)
  | .d (.list ds) => some (ds.map .d)
  | .d (.tuple ds) => some (ds.map .d)
  | .ref i => match σ[i]? with
    | some (.lst ws) => some ws
    | _ => none
  | _ => none
/-- x[y] -/
noncomputable def ixW : W → W → Sto → QK → Prop := fun a b σ Q => ∃ y, dat σ b = some y ∧ match prsOf σ a with
  | some kvs => keyC kvs y ∧ ∃ w, dget kvs y = some w ∧ Q w σ
  | none => ∃ i, y = .int i ∧ match a with
    | .d (.str z) => z.length ≤ sizeLine ∧ ∃ c, atI z.cps.toList i = some c ∧ Q (.d (.str ⟨#[c]⟩)) σ
    | _ => ∃ ws w, itemsOf σ a = some ws ∧ atI ws i = some w ∧ Q w σ
theorem atI_map {α β : Type} (f : α → β) (xs : List α) (i : Int) : atI (xs.map f) i = (atI xs i).map f := by
  unfold atI
  rw [List.length_map]
  cases ixN xs.length i with
  | none => rfl
  | some j => simp
theorem atI_paired {α β : Type} {R : α → β → Prop} {l : List α} {m : List β} {i : Int} {b : β} (h : Paired R l m) (e : atI m i = some b) : ∃ a, atI l i = some a ∧ R a b := by
  unfold atI at e ⊢
  rw [Paired.len h]
  cases hj : ixN m.length i with
  | none => rw [hj] at e; cases e
  | some j =>
    rw [hj] at e
    obtain ⟨a, h1, h2⟩ := Paired.get h (show m[j]? = some b from e)
    exact ⟨a, h1, h2⟩
theorem itemsOf_rd {T : Fx} {ρ : List Addr} {H : Hp} {σ : Sto} {v : V} (r : Rel K T ρ σ H) : ∀ {w : W} {ws : List W}, WR K ρ H v w → itemsOf σ w = some ws → ∃ a xs, v = .ref a ∧ (Rd H a (.lst xs) ∨ H a = some (.tup xs)) ∧ WRs K ρ H xs ws
  | .d (.list ds), _, h, e => by
    cases e
    have h : Rp K ρ H v (.list ds) := h
    cases h with
    | lst h1 h2 => exact ⟨_, _, rfl, .inl h1.2, rpAll_wrs h2⟩
  | .d (.tuple ds), _, h, e => by
    cases e
    obtain ⟨a, xs, e1, e2, e3⟩ := h.tup
    exact ⟨a, xs, e1, .inr e2, rpAll_wrs e3⟩
  | .ref i, ws, h, e => by
    obtain ⟨a, ha, rfl⟩ := h
    cases hc : σ[i]? with
    | none => simp [itemsOf, hc] at e
    | some c =>
      have cr := r.cell i a c ha hc
      cases c with
      | dct t kv => simp [itemsOf, hc] at e
      | lck t kv => simp [itemsOf, hc] at e
      | lst wl =>
        have e' : wl = ws := by simpa [itemsOf, hc] using e
        subst e'
        obtain ⟨xs, e1, e2⟩ := cr
        exact ⟨a, xs, rfl, .inl (.inl e1), e2⟩
  | .d .none, _, _, e => by cases e
  | .d (.bool _), _, _, e => by cases e
  | .d (.int _), _, _, e => by cases e
  | .d (.str _), _, _, e => by cases e
  | .d (.dict _), _, _, e => by cases e
  | .scr _, _, _, e => by cases e
instance sim_ixU : SimR2 Z (rIxU Z.K) ixW := ⟨fun {ρ σ H x y a b Qa Q} rl va vb q kq => by
  obtain ⟨d, hd, q⟩ := q
  have td := dat_tp rl vb hd
  cases hp : prsOf σ a with
  | some kvs =>
    rw [hp] at q
    obtain ⟨kc, w, hw, q⟩ := q
    obtain ⟨ad, rfl, rd⟩ := prsOf_rd rl va hp
    obtain ⟨o, g, rr, gg⟩ := dg_of rd kc td
    rw [hw] at rr
    cases o with
    | none => exact rr.elim
    | some v => exact .inr (.inr (.inr ⟨ad, v, rfl, gg rfl, kq _ _ _ _ _ .refl rl rr q⟩))
  | none =>
    rw [hp] at q
    obtain ⟨i, rfl, q⟩ := q
    have ey := td.int
    have gen : (∃ ws w, itemsOf σ a = some ws ∧ atI ws i = some w ∧ Qa w σ) → rIxU Z.K x y H Q := fun ⟨ws, w, h1, h2, h3⟩ => by
      obtain ⟨ad, xs, rfl, hr, hws⟩ := itemsOf_rd rl va h1
      obtain ⟨v, hv, wv⟩ := atI_paired hws h2
      rcases hr with hr | hr
      · exact .inl ⟨ad, xs, i, v, rfl, ey, .inl hr, hv, kq _ _ _ _ _ .refl rl wv h3⟩
      · exact .inr (.inl ⟨ad, xs, i, v, rfl, ey, .inl (.inl hr), hv, kq _ _ _ _ _ .refl rl wv h3⟩)
    cases a with
    | ref j => exact gen q
    | scr ns => exact gen q
    | d dd =>
      cases dd <;> first | exact gen q | skip
      obtain ⟨h1, c, h2, h3⟩ := q
      exact .inr (.inr (.inl ⟨_, i, c, va.str, ey, h1, h2, kq.d .refl rl (Rp.str _) h3⟩))⟩
/-! ### slices -/
theorem SlR.or {r r' : V → Option Int → Option Int → Hp → VK → Prop} (h : L2.SlR X r) (h' : L2.SlR X r') : L2.SlR X (fun x l u H Q => r x l u H Q ∨ r' x l u H Q) := by
  intro pins s σ H x v vl vu lo hi sl Q I rx hs pl pu q
  rcases q with q | q
  · exact h pins s σ H x v vl vu lo hi sl Q I rx hs pl pu q
  · exact h' pins s σ H x v vl vu lo hi sl Q I rx hs pl pu q
def rSlU (K : PySem.W.Frag) : V → Option Int → Option Int → Hp → VK → Prop := fun x l u H Q => rSlL K x l u H Q ∨ rSlA K x l u H Q ∨ rSlS x l u H Q
theorem sl_U (hK : X.K = K) : L2.SlR X (rSlU K) := by
  subst hK
  exact SlR.or sl_list (SlR.or sl_tupA sl_str)
def cutL {α : Type} (xs : List α) (lo hi : Option Int) : List α := (xs.drop (HT.sIx xs.length 0 lo)).take (HT.sIx xs.length xs.length hi - HT.sIx xs.length 0 lo)
theorem cut_rp {ρ : List Addr} {H : Hp} {xs : List V} {ds : List PyData} (lo hi : Option Int) (h : RpAll K ρ H xs ds) : RpAll K ρ H (cutV xs lo hi) (cutL ds lo hi) := by
  unfold cutV cutL
  rw [rpAll_len h]
  exact rpAll_take _ (rpAll_drop _ h)
def slW : W → Option Int → Option Int → Sto → QK → Prop := fun a lo hi σ Q => match a with
  | .scr ns => Q (.d (.list (cutL (ns.map .int) lo hi))) σ
  | _ => ∃ x, dat σ a = some x ∧ match x with
    | .list ds => Q (.d (.list (cutL ds lo hi))) σ
    | .tuple ds => Q (.d (.tuple (cutL ds lo hi))) σ
    | .str z => z.length ≤ sizeLine ∧ Q (.d (.str (cutS z lo hi))) σ
    | _ => False
theorem rp_ints {ρ : List Addr} {H : Hp} : ∀ ns : List Int, RpAll K ρ H (ns.map V.int) (ns.map PyData.int)
  | [] => .nil
  | n :: ns => .cons (.int n) (rp_ints ns)
theorem cut_all {α : Type} {xs : List α} {lo hi : Option Int} (h : HT.sIx xs.length 0 lo = 0 ∧ HT.sIx xs.length xs.length hi = xs.length) : cutL xs lo hi = xs := by
  unfold cutL
  rw [h.1, h.2]
  simp
theorem sl_sim {ρ : List Addr} {σ : Sto} {H : Hp} {x : V} {a : W} {lo hi : Option Int} {Qa : QK} {Q : VK} (rl : Rel Z.K Z.T ρ σ H) (va : WR Z.K ρ H x a) (q : slW a lo hi σ Qa) (kq : KQ Z ρ H Qa Q) : rSlU Z.K x lo hi H Q := by
  have gen : (∃ y, dat σ a = some y ∧ match y with
    | .list ds => Qa (.d (.list (cutL ds lo hi))) σ
    | .tuple ds => Qa (.d (.tuple (cutL ds lo hi))) σ
    | .str z => z.length ≤ sizeLine ∧ Qa (.d (.str (cutS z lo hi))) σ
    | _ => False) → rSlU Z.K x lo hi H Q := fun ⟨y, hy, q⟩ => by
    have t := dat_tp rl va hy
    cases y <;> first | exact q.elim | skip
    · exact .inr (.inr ⟨_, t.str, q.1, kq.d .refl rl (Rp.str _) q.2⟩)
    · obtain ⟨ad, xs, rfl, h1, h2⟩ := t
      exact .inl ⟨ad, xs, rfl, .inl h1, fun p n => kq.layL rl n (cut_rp lo hi h2) q⟩
    · obtain ⟨ad, xs, rfl, h1, h2⟩ := t.tup
      rename_i ds
      have q' : Qa (.d (.tuple (cutL ds lo hi))) σ := q
      refine .inr (.inl ⟨ad, xs, rfl, .inl (.inl h1), fun hw => ?_, fun _ p n => kq.layT rl n (cut_rp lo hi h2) q'⟩)
      rw [cut_all (by rw [← rpAll_len h2]; exact hw)] at q'
      exact kq.d .refl rl (Rp.tup h1 h2) q'
  cases a with
  | ref i => exact gen q
  | d y => exact gen q
  | scr ns =>
    obtain ⟨ad, rfl, sq, _⟩ := va
    exact .inl ⟨ad, _, rfl, sq, fun p n => kq.layL rl n (cut_rp lo hi (rp_ints ns)) q⟩
abbrev AO := Ev → Sto → (Option Int → Sto → Prop) → XQ → Prop
def aNoP : AO := fun _ σ Q _ => Q none σ
def aPart (fa : AE) : AO := fun e σ Q X => fa e σ (fun w σ1 => ∃ i, w = .d (.int i) ∧ Q (some i) σ1) X
class SimO (Z : Zx) (E : L2.St → XK) (to : TO) (ao : outParam AO) : Prop where
  sim : ∀ {ρ : List Addr} {σ : Sto} {H : Hp} {s : L2.St} {e : Ev} {Qa : Option Int → Sto → Prop} {Ea : XQ} {Q : Option Int → Hp → Prop}, Rel Z.K Z.T ρ σ H → ER Z.K ρ H s e → ao e σ Qa Ea →
    (∀ ρ' σ' H' o, Go Z.T ρ H ρ' H' → Rel Z.K Z.T ρ' σ' H' → Qa o σ' → Q o H') → KX Z ρ H Ea (E s) → to s H Q
variable {E : L2.St → XK} {ta : TE} {fa : AE}
instance sim_noP : SimO Z E tNoPart aNoP := ⟨fun r er h k _ => k _ _ _ _ .refl r h⟩
instance sim_part [ia : SimE Z E ta fa] : SimO Z E (tPart ta) (aPart fa) := ⟨fun r er h k kx =>
  ia.sim r er h (fun _ _ _ _ _ g r' v h' => by
    obtain ⟨i, rfl, q⟩ := h'
    exact ⟨i, v.int, k _ _ _ _ g r' q⟩) kx⟩
def aSl (fa : AE) (fl fu : AO) : AE := fun e σ Q X => fa e σ (fun w σ1 => fl e σ1 (fun l σ2 => fu e σ2 (fun u σ3 => slW w l u σ3 Q) X) X) X
instance sim_sl {tl tu : TO} {fl fu : AO} [ia : SimE Z E ta fa] [il : SimO Z E tl fl] [iu : SimO Z E tu fu] : SimE Z E (tSl (rSlU Z.K) ta tl tu) (aSl fa fl fu) := ⟨fun r er h kq kx =>
  ia.sim r er h (fun _ _ _ _ _ g1 r1 v1 h1 => il.sim r1 (g1.er r er) h1 (fun _ _ _ _ g2 r2 h2 => iu.sim r2 ((g1.trans g2).er r er) h2 (fun _ _ _ _ g3 r3 h3 =>
    sl_sim r3 ((g2.trans g3).wr r1 v1) h3 (kq.go ((g1.trans g2).trans g3))) (kx.go (g1.trans g2))) (kx.go g1)) kx⟩
end
end Aw

/-! Aw9: cells that are left behind; things that are frozen. -/
namespace Aw
open PySem PySem.Spec PyProof.Rows L2 Mw
def Clo (n : Nat) : W → Prop
  | .ref i => i < n
  | _ => True
def CloC (n : Nat) : Cell → Prop
  | .lst ws => ∀ w ∈ ws, Clo n w
  | .dct _ kvs => ∀ p ∈ kvs, Clo n p.2
  | .lck _ kvs => ∀ p ∈ kvs, Clo n p.2
mutual
/-- what a value is, when the cells from n on are frozen -/
inductive Frz (n : Nat) (σ : Sto) : W → PyData → Prop
  | d (x : PyData) : Frz n σ (.d x) x
  | lst {i : Nat} {ws : List W} {ds : List PyData} : n ≤ i → σ[i]? = some (.lst ws) → FrzAll n σ ws ds → Frz n σ (.ref i) (.list ds)
  | dct {i : Nat} {t : Bool} {kvs : List (PyData × W)} {ds : List (PyData × PyData)} : n ≤ i → σ[i]? = some (.dct t kvs) → FrzPs n σ kvs ds → Frz n σ (.ref i) (.dict ds)
inductive FrzAll (n : Nat) (σ : Sto) : List W → List PyData → Prop
  | nil : FrzAll n σ [] []
  | cons {w : W} {ws : List W} {d : PyData} {ds : List PyData} : Frz n σ w d → FrzAll n σ ws ds → FrzAll n σ (w :: ws) (d :: ds)
inductive FrzPs (n : Nat) (σ : Sto) : List (PyData × W) → List (PyData × PyData) → Prop
  | nil : FrzPs n σ [] []
  | cons {k : PyData} {w : W} {ps : List (PyData × W)} {d : PyData} {ds : List (PyData × PyData)} : Frz n σ w d → FrzPs n σ ps ds → FrzPs n σ ((k, w) :: ps) ((k, d) :: ds)
end
/-- the cells below n lean on nothing from n on -/
structure Shed (n : Nat) (σ σ' : Sto) : Prop where
  le : n ≤ σ'.length
  clo : ∀ (i : Nat) (c : Cell), i < n → σ'[i]? = some c → σ[i]? = some c ∨ CloC n c
section
variable {K : PySem.W.Frag} {T : Fx} {ρ ρ' : List Addr} {H H' : Hp} {σ σ' : Sto} {v : V} {n : Nat}
theorem SqO.anti {a : Addr} {xs : List V} (hs : ∀ b ∈ ρ', b ∈ ρ) (h : SqO ρ H a xs) : SqO ρ' H a xs := ⟨fun z => h.1 (hs _ z), h.2⟩
mutual
theorem Rp.anti (hs : ∀ b ∈ ρ', b ∈ ρ) : ∀ {d : PyData} {v : V}, Rp K ρ H v d → Rp K ρ' H v d
  | _, _, .non => .non
  | _, _, .bl b => .bl b
  | _, _, .int i => .int i
  | _, _, .str x => .str x
  | _, _, .lst h a => .lst (h.anti hs) (RpAll.anti hs a)
  | _, _, .tup h a => .tup h (RpAll.anti hs a)
  | _, _, .dK n h a => .dK (fun z => n (hs _ z)) h (RpPs.anti hs a)
  | _, _, .dT n h a => .dT (fun z => n (hs _ z)) h (RpPs.anti hs a)
theorem RpAll.anti (hs : ∀ b ∈ ρ', b ∈ ρ) : ∀ {ds : List PyData} {vs : List V}, RpAll K ρ H vs ds → RpAll K ρ' H vs ds
  | _, _, .nil => .nil
  | _, _, .cons h t => .cons (Rp.anti hs h) (RpAll.anti hs t)
theorem RpPs.anti (hs : ∀ b ∈ ρ', b ∈ ρ) : ∀ {ds : List (PyData × PyData)} {vs : List (PyData × V)}, RpPs K ρ H vs ds → RpPs K ρ' H vs ds
  | _, _, .nil => .nil
  | _, _, .cons h t => .cons (Rp.anti hs h) (RpPs.anti hs t)
end
theorem take_sub (n : Nat) (ρ : List Addr) : ∀ b ∈ ρ.take n, b ∈ ρ := fun b h => List.mem_of_mem_take h
theorem take_at {i : Nat} {a : Addr} (h : ρ[i]? = some a) (hi : i < n) : (ρ.take n)[i]? = some a := by
  rw [List.getElem?_take_of_lt hi]; exact h
theorem WR.take : ∀ {w : W}, WR K ρ H v w → Clo n w → WR K (ρ.take n) H v w
  | .d x, h, _ => Rp.anti (take_sub n ρ) h
  | .ref i, ⟨a, h, e⟩, c => ⟨a, take_at h c, e⟩
  | .scr ns, ⟨a, e, h⟩, _ => ⟨a, e, h.1, fun z => h.2 (take_sub n ρ _ z)⟩
theorem WRs.take : ∀ {vs : List V} {ws : List W}, WRs K ρ H vs ws → (∀ w ∈ ws, Clo n w) → WRs K (ρ.take n) H vs ws
  | _, _, .nil, _ => .nil
  | _, _, .cons h t, c => .cons (WR.take h (c _ (by simp))) (WRs.take t fun w hw => c w (by simp [hw]))
theorem PRs.take : ∀ {vs : List (PyData × V)} {ws : List (PyData × W)}, PRs K ρ H vs ws → (∀ p ∈ ws, Clo n p.2) → PRs K (ρ.take n) H vs ws
  | _, _, .nil, _ => .nil
  | _, _, .cons h t, c => .cons ⟨h.1, WR.take h.2 (c _ (by simp))⟩ (PRs.take t fun w hw => c w (by simp [hw]))
theorem CR.take {a : Addr} : ∀ {c : Cell}, CR K ρ H a c → CloC n c → CR K (ρ.take n) H a c
  | .lst ws, ⟨xs, h, q⟩, c => ⟨xs, h, WRs.take q c⟩
  | .dct false kvs, ⟨hk, h, q⟩, c => ⟨hk, h, PRs.take q c⟩
  | .dct true kvs, ⟨hk, h, q⟩, c => ⟨hk, h, PRs.take q c⟩
  | .lck false kvs, ⟨hk, h, q⟩, c => ⟨hk, h, PRs.take q c⟩
  | .lck true kvs, ⟨hk, h, q⟩, c => ⟨hk, h, PRs.take q c⟩
theorem WR.clo (r : Rel K T ρ σ H) : ∀ {w : W}, WR K ρ H v w → Clo σ.length w
  | .d x, _ => True.intro
  | .scr x, _ => True.intro
  | .ref i, ⟨a, h, e⟩ => by
    show i < σ.length
    rw [r.len]
    exact (List.getElem?_eq_some_iff.mp h).1
theorem WRs.clo (r : Rel K T ρ σ H) : ∀ {vs : List V} {ws : List W}, WRs K ρ H vs ws → ∀ w ∈ ws, Clo σ.length w
  | _, _, .cons h t, w, hw => by
    rcases List.mem_cons.mp hw with e | hw
    · rw [e]; exact WR.clo r h
    · exact WRs.clo r t w hw
theorem PRs.clo (r : Rel K T ρ σ H) : ∀ {vs : List (PyData × V)} {ws : List (PyData × W)}, PRs K ρ H vs ws → ∀ p ∈ ws, Clo σ.length p.2
  | _, _, .cons h t, w, hw => by
    rcases List.mem_cons.mp hw with e | hw
    · rw [e]; exact WR.clo r h.2
    · exact PRs.clo r t w hw
theorem Rel.clo (r : Rel K T ρ σ H) {i : Nat} {c : Cell} (h : σ[i]? = some c) : CloC σ.length c := by
  obtain ⟨a, _, hc⟩ := r.at_ h
  cases c with
  | lst ws => obtain ⟨xs, _, q⟩ := hc; exact WRs.clo r q
  | dct t kvs => cases t <;> (obtain ⟨hk, _, q⟩ := hc; exact PRs.clo r q)
  | lck t kvs => cases t <;> (obtain ⟨hk, _, q⟩ := hc; exact PRs.clo r q)
/-- the cells from n on are left behind -/
theorem Rel.take (r : Rel K T ρ σ H) (hn : n = σ.length) (r' : Rel K T ρ' σ' H') (s : Shed n σ σ') : Rel K T (ρ'.take n) (σ'.take n) H' := by
  refine ⟨by rw [List.length_take, List.length_take, r'.len], r'.nd.sublist (List.take_sublist n ρ'), fun i a c h1 h2 => ?_, r'.tb, r'.ct⟩
  have hi : i < n := by
    have := (List.getElem?_eq_some_iff.mp h1).1
    rw [List.length_take] at this
    omega
  rw [List.getElem?_take_of_lt hi] at h1 h2
  refine CR.take (r'.cell i a c h1 h2) ?_
  rcases s.clo i c hi h2 with z | z
  · rw [hn]; exact r.clo z
  · exact z
theorem Go.take (g : Go T ρ H ρ' H') (hn : n = ρ.length) : Go T ρ H (ρ'.take n) H' := by
  obtain ⟨t, rfl⟩ := g.pre
  have e : (ρ ++ t).take n = ρ := by rw [hn]; simp
  rw [e]
  exact .mk' (List.prefix_refl _) (fun _ h => .inl h) g.keep g.th g.lk
mutual
theorem Frz.rp (r : Rel K T ρ σ H) : ∀ {w : W} {d : PyData} {v : V}, Frz n σ w d → WR K ρ H v w → Rp K (ρ.take n) H v d
  | _, _, _, .d x, h => Rp.anti (take_sub n ρ) h
  | _, _, v, .lst (i := i) (ws := ws) hi hc hf, h => by
    obtain ⟨a, ha, rfl⟩ := h
    obtain ⟨xs, e1, e2⟩ := r.cell i a _ ha hc
    refine .lst ⟨fun z => ?_, .inl e1⟩ (FrzAll.rp r hf e2)
    obtain ⟨j, hj⟩ := List.getElem?_of_mem z
    have hjn : j < n := by
      have := (List.getElem?_eq_some_iff.mp hj).1
      rw [List.length_take] at this
      omega
    rw [List.getElem?_take_of_lt hjn] at hj
    obtain ⟨l1, e3⟩ := List.getElem?_eq_some_iff.mp hj
    obtain ⟨l2, e4⟩ := List.getElem?_eq_some_iff.mp ha
    have := (List.getElem_inj r.nd).mp (e3.trans e4.symm)
    omega
  | _, _, v, .dct (i := i) (t := t) hi hc hf, h => by
    obtain ⟨a, ha, rfl⟩ := h
    have na : a ∉ ρ.take n := fun z => by
      obtain ⟨j, hj⟩ := List.getElem?_of_mem z
      have hjn : j < n := by
        have := (List.getElem?_eq_some_iff.mp hj).1
        rw [List.length_take] at this
        omega
      rw [List.getElem?_take_of_lt hjn] at hj
      obtain ⟨l1, e3⟩ := List.getElem?_eq_some_iff.mp hj
      obtain ⟨l2, e4⟩ := List.getElem?_eq_some_iff.mp ha
      have := (List.getElem_inj r.nd).mp (e3.trans e4.symm)
      omega
    cases t with
    | false =>
      obtain ⟨hk, e1, e2⟩ := r.cell i a _ ha hc
      exact .dK na (.inl e1) (FrzPs.rp r hf e2)
    | true =>
      obtain ⟨hk, e1, e2⟩ := r.cell i a _ ha hc
      exact .dT na (.inl e1) (FrzPs.rp r hf e2)
theorem FrzAll.rp (r : Rel K T ρ σ H) : ∀ {ws : List W} {ds : List PyData} {vs : List V}, FrzAll n σ ws ds → WRs K ρ H vs ws → RpAll K (ρ.take n) H vs ds
  | _, _, _, .nil, h => by cases h; exact .nil
  | _, _, _, .cons hf ht, h => by
    cases h with
    | cons h1 h2 => exact .cons (Frz.rp r hf h1) (FrzAll.rp r ht h2)
theorem FrzPs.rp (r : Rel K T ρ σ H) : ∀ {ws : List (PyData × W)} {ds : List (PyData × PyData)} {vs : List (PyData × V)}, FrzPs n σ ws ds → PRs K ρ H vs ws → RpPs K (ρ.take n) H vs ds
  | _, _, _, .nil, h => by cases h; exact .nil
  | _, _, _, .cons (k := k) hf ht, h => by
    cases h with
    | @cons p q as bs h1 h2 =>
      obtain ⟨k', v⟩ := p
      obtain ⟨e1, e2⟩ := h1
      cases (show k' = k from e1)
      exact .cons (Frz.rp r hf e2) (FrzPs.rp r ht h2)
end
end
theorem frzAll_pures {n : Nat} {σ : Sto} : ∀ {ws : List W} {ds : List PyData}, pures ws = some ds → FrzAll n σ ws ds
  | [], ds, h => by cases h; exact .nil
  | .d x :: ws, ds, h => by
    obtain ⟨ds', h1, rfl⟩ := Option.map_eq_some_iff.mp (show (pures ws).map (x :: ·) = some ds from h)
    exact .cons (.d x) (frzAll_pures h1)
  | .ref _ :: _, _, h => by cases h
  | .scr _ :: _, _, h => by cases h
/-! ### defs whose own cells are left behind -/
section
variable {P : Program} {w : World} {Z : Zx} {mg : Str → Option Value} {base : Heap} {CX : CXT} {k m : Nat} {f : Addr} {fd : FuncData} {ps : List Str} {mf mf' : AF}
/-- a value that is told: data, frozen from what was made here; or a cell from before -/
def Told (n : Nat) (σ σ' : Sto) (w : W) (Q : QK) : Prop := Shed n σ σ' ∧ ((∃ d, Frz n σ' w d ∧ Q (.d d) (σ'.take n)) ∨ (Clo n w ∧ Q w (σ'.take n)))
theorem spA_shed (h : ∀ ws σ Q X, mf' ws σ Q X → mf ws σ (fun w σ' => Told σ.length σ σ' w Q) X) : ∀ vs H Q E, spA Z m mf' vs H Q E → spA Z m mf vs H Q E := fun vs H Q E ⟨hl, ρ, σ, ws, Qa, Ea, r, v, q, kq, kx⟩ => by
  refine ⟨hl, ρ, σ, ws, _, Ea, r, v, h _ _ _ _ q, fun ρ' σ' H' v' w' g r' vr t => ?_, kx⟩
  have g' := g.take (n := σ.length) r.len
  have r2 := r.take rfl r' t.1
  rcases t.2 with ⟨d, hf, q⟩ | ⟨hc, q⟩
  · exact kq _ _ _ _ (.d d) g' r2 (hf.rp r' vr) q
  · exact kq _ _ _ _ w' g' r2 (vr.take hc) q
theorem FnOk.shed (F : FnOk P w Z.K mg base CX k f fd ps (spA Z m mf)) (h : ∀ ws σ Q X, mf' ws σ Q X → mf ws σ (fun w σ' => Told σ.length σ σ' w Q) X) : FnOk P w Z.K mg base CX k f fd ps (spA Z m mf') :=
  F.imp (spA_shed h)
/-- another function that asks for more -/
theorem FnOk.as (F : FnOk P w Z.K mg base CX k f fd ps (spA Z m mf)) (h : ∀ ws σ Q X, mf' ws σ Q X → mf ws σ Q X) : FnOk P w Z.K mg base CX k f fd ps (spA Z m mf') :=
  F.imp fun vs H Q E ⟨hl, ρ, σ, ws, Qa, Ea, r, v, q, kq, kx⟩ => ⟨hl, ρ, σ, ws, Qa, Ea, r, v, h _ _ _ _ q, kq, kx⟩
end
/-- the usual ways to leave cells behind -/
theorem Shed.app (σ j : Sto) : Shed σ.length σ (σ ++ j) := ⟨by simp, fun i c hi h => .inl (by rwa [List.getElem?_append_left hi] at h)⟩
theorem Shed.refl (σ : Sto) : Shed σ.length σ σ := ⟨Nat.le_refl _, fun i c _ h => .inl h⟩
theorem Shed.set {σ j : Sto} {i : Nat} {c : Cell} (h : CloC σ.length c) : Shed σ.length σ (σ.set i c ++ j) := by
  refine ⟨by simp, fun l c' hl e => ?_⟩
  rw [List.getElem?_append_left (by simpa using hl)] at e
  by_cases hi : l = i
  · subst hi
    rw [List.getElem?_set_self hl] at e
    cases e
    exact .inr h
  · rw [List.getElem?_set_ne (Ne.symm hi)] at e
    exact .inl e
theorem told_d {σ j : Sto} {x : PyData} {Q : QK} (q : Q (.d x) σ) : Told σ.length σ (σ ++ j) (.d x) Q := ⟨.app σ j, .inl ⟨x, .d x, by simpa using q⟩⟩
theorem told_set {σ j : Sto} {i : Nat} {c : Cell} {x : PyData} {Q : QK} (h : CloC σ.length c) (q : Q (.d x) (σ.set i c)) : Told σ.length σ (σ.set i c ++ j) (.d x) Q :=
  ⟨.set h, .inl ⟨x, .d x, by rw [List.take_append_of_le_length (by simp), List.take_of_length_le (by simp)]; exact q⟩⟩
end Aw

/-! AwA: what is walked. -/
namespace Aw
open PySem PySem.Spec PyProof.Rows L2 Mw
section
variable {X : Cx} {K : PySem.W.Frag} {Z : Zx} {tg : Expr} {E : L2.St → XK} {ta : TE} {fa : AE}
/-- a list, a tuple, a text -/
def IDk (a : Addr) (H : Hp) (R : It → Hp → Prop) : Prop := (∃ o kvs, H a = some (.frz o (.dK kvs)) ∧ R (Itk a o kvs) H) ∨ (∃ o kvs, H a = some (.frz o (.dT kvs)) ∧ R (Itkt a o kvs) H) ∨
  (∃ kvs, H a = some (.dK kvs) ∧ ∀ o, R (Itk a o kvs) (upd H a (.frz o (.dK kvs)))) ∨ ∃ kvs, H a = some (.dT kvs) ∧ ∀ o, R (Itkt a o kvs) (upd H a (.frz o (.dT kvs)))
theorem idk_run {d : Addr} {pins : List (Addr × Obj)} {s : Shared} {σ : L2.St} {H : Hp} {R : It → Hp → Prop} (I : Inv X pins σ H s) (h : IDk d H R) : wpAny (model X.prog X.w) X.A (pyIter (.ref d)) (PIE X pins σ tg R) X.xe s := by
  have one : ∀ {o : Obj} {kvs : List (Key × V)} {H : Hp}, Inv X pins σ H s → H d = some (.frz o (.dK kvs)) → R (Itk d o kvs) H → wpAny (model X.prog X.w) X.A (pyIter (.ref d)) (PIE X pins σ tg R) X.xe s := fun {o kvs H} I hd q => by
    obtain ⟨hs, hgd, hx, es, ep, vs, hdt, hsz, kv, hm⟩ := I.frzK hd
    refine iter_keys hs hgd hx hdt (pi_one (tk := s.toks) I _ (turn_keys _ hdt) ⟨_, Heap.get?_push_size _ rfl, rfl, ?_⟩ q)
    rw [hsz] <;> rfl
  have two : ∀ {o : Obj} {kvs : List (List Key × V)} {H : Hp}, Inv X pins σ H s → H d = some (.frz o (.dT kvs)) → R (Itkt d o kvs) H → wpAny (model X.prog X.w) X.A (pyIter (.ref d)) (PIE X pins σ tg R) X.xe s := fun {o kvs H} I hd q => by
    obtain ⟨hs, hgd, hx, es, ep, hdt, hsz, ent⟩ := I.frzT hd
    refine iter_keys hs hgd hx hdt (pi_one (tk := s.toks) I _ (turn_keysT _ hdt) ⟨_, Heap.get?_push_size _ rfl, rfl, ?_⟩ q)
    rw [hsz] <;> rfl
  rcases h with ⟨o, kvs, hd, q⟩ | ⟨o, kvs, hd, q⟩ | ⟨kvs, hd, q⟩ | ⟨kvs, hd, q⟩
  · exact one I hd q
  · exact two I hd q
  · obtain ⟨od, I1⟩ := I.lock hd True.intro
    exact one I1 upd_same (q od)
  · obtain ⟨od, I1⟩ := I.lock hd True.intro
    exact two I1 upd_same (q od)
def iU (K : PySem.W.Frag) (te : TE) : TI := fun σ H R => te σ H fun x H1 => (∃ a, x = .ref a ∧ ((∃ xs, SqL K H1 a xs ∧ R (Itl K a) H1) ∨ (∃ xs, SqT K H1 a xs ∧ R (Itt K a) H1) ∨ IDk a H1 R)) ∨ ∃ z, x = .str z ∧ R (Its z) H1
theorem pi_U {l : Expr} {tl : TE} (hK : X.K = K) (hl : PE X l tl) : PI X tg l (iU K tl) := by
  subst hK
  refine ⟨fun pins s σ H R I h => ?_⟩
  refine thn (hl.run pins s σ H _ I h) fun v s1 ⟨x, H1, I1, r1, q1⟩ => ?_
  rcases q1 with ⟨a, rfl, ⟨xs, hq, q⟩ | ⟨xs, hq, q⟩ | q⟩ | ⟨z, rfl, q⟩
  · cases r1
    obtain ⟨its, rv, p, hz⟩ := I1.list hq
    exact wpAny_pyIter_list p.isList (pi_one (tk := s1.toks) I1 _ (turn_list a _) ⟨_, Heap.get?_push_size _ rfl, rfl, rfl⟩ q)
  · cases r1
    obtain ⟨its, rv, p, hz⟩ := I1.tuple hq
    exact wpAny_pyIter_tuple (show s1.heap.IsTuple a its.toArray from p) (pi_one (tk := s1.toks) I1 _ (turn_tuple a _) ⟨_, Heap.get?_push_size _ rfl, rfl, rfl⟩ q)
  · cases r1
    exact idk_run I1 q
  · obtain ⟨t, rfl⟩ := r1
    cases ha : z.cps.all (· < 128)
    · exact wpAny_pyIter_wide ha (pi_one (tk := s1.toks) I1 _ (turn_str _ z t "str_iterator" (.inr rfl)) ⟨_, Heap.get?_push_size _ rfl, rfl, rfl⟩ q)
    · exact wpAny_pyIter_ascii ha (pi_one (tk := s1.toks) I1 _ (turn_str _ z t "str_ascii_iterator" (.inl rfl)) ⟨_, Heap.get?_push_size _ rfl, rfl, rfl⟩ q)
def chD (c : Nat) : W := .d (.str ⟨#[c]⟩)
def itW (σ : Sto) (R : List W → (Sto → Prop) → Sto → Prop) : W → Prop
  | .d (.list ds) => R (ds.map .d) (fun _ => True) σ
  | .d (.tuple ds) => R (ds.map .d) (fun _ => True) σ
  | .d (.str z) => R (z.cps.toList.map chD) (fun _ => True) σ
  | .d (.dict ds) => R (ds.map fun p => .d p.1) (fun _ => True) σ
  | .ref i => (∃ ws, σ[i]? = some (.lst ws) ∧ R ws (fun σ' => σ'[i]? = some (.lst ws)) σ) ∨ ∃ t kvs, σ[i]? = some (.lck t kvs) ∧ R (kvs.map fun p => .d p.1) (fun σ' => σ'[i]? = some (.lck t kvs)) σ
  | _ => False
def aIt (fa : AE) : AI := fun e σ R X => fa e σ (fun w σ1 => itW σ1 R w) X
theorem it_list {ρ : List Addr} {H : Hp} {a : Addr} {ws : List W} {stay : Sto → Prop}
    (h : ∀ ρ' σ' H', Go Z.T ρ H ρ' H' → Rel Z.K Z.T ρ' σ' H' → stay σ' → ∃ xs, SqL Z.K H' a xs ∧ WRs Z.K ρ' H' xs ws) : ItR Z ρ H (Itl Z.K a) ws stay := fun ρ' σ' H' g r st => by
  obtain ⟨xs, sq, wr⟩ := h ρ' σ' H' g r st
  refine ⟨fun i w hw => ?_, ⟨xs, sq, by rw [Paired.len wr]; exact Nat.le_refl _⟩⟩
  obtain ⟨x, hx, wx⟩ := Paired.get wr hw
  refine ⟨⟨xs, x, sq, hx⟩, fun y H2 yl => ?_⟩
  obtain ⟨rfl, hy⟩ := yl
  have := hy xs sq
  rw [hx] at this
  cases this
  exact ⟨.refl, r, wx⟩
theorem it_tup {ρ : List Addr} {H : Hp} {a : Addr} {ws : List W} {stay : Sto → Prop}
    (h : ∀ ρ' σ' H', Go Z.T ρ H ρ' H' → Rel Z.K Z.T ρ' σ' H' → stay σ' → ∃ xs, SqT Z.K H' a xs ∧ WRs Z.K ρ' H' xs ws) : ItR Z ρ H (Itt Z.K a) ws stay := fun ρ' σ' H' g r st => by
  obtain ⟨xs, sq, wr⟩ := h ρ' σ' H' g r st
  refine ⟨fun i w hw => ?_, ⟨xs, sq, by rw [Paired.len wr]; exact Nat.le_refl _⟩⟩
  obtain ⟨x, hx, wx⟩ := Paired.get wr hw
  refine ⟨⟨xs, x, sq, hx⟩, fun y H2 yl => ?_⟩
  obtain ⟨rfl, hy⟩ := yl
  have := hy xs sq
  rw [hx] at this
  cases this
  exact ⟨.refl, r, wx⟩
theorem it_dk {ρ : List Addr} {H : Hp} {a : Addr} {o : Obj} {kvs : List (Key × V)} {stay : Sto → Prop} (e : H a = some (.frz o (.dK kvs))) : ItR Z ρ H (Itk a o kvs) (kvs.map fun p => .d (kD p.1)) stay := fun ρ' σ' H' g r st => by
  have e' := g.lk _ _ _ e
  refine ⟨fun i w hw => ?_, ⟨e', by rw [List.length_map]; exact Nat.le_refl _⟩⟩
  rw [List.getElem?_map] at hw
  obtain ⟨p, hp, rfl⟩ := Option.map_eq_some_iff.mp hw
  refine ⟨⟨e', (List.getElem?_eq_some_iff.mp hp).1⟩, fun y H2 yl => ?_⟩
  obtain ⟨rfl, k, v, hk, rfl⟩ := yl
  rw [hp] at hk
  cases hk
  refine ⟨.refl, r, ?_⟩
  cases k with
  | inl i => exact Rp.int i
  | inr z => exact Rp.str z
theorem rp_keysV {ρ : List Addr} {H : Hp} : ∀ ks : List Key, RpAll K ρ H (ks.map kV) (ks.map kD)
  | [] => .nil
  | .inl i :: ks => .cons (.int i) (rp_keysV ks)
  | .inr z :: ks => .cons (.str z) (rp_keysV ks)
theorem it_dt {ρ : List Addr} {H : Hp} {a : Addr} {o : Obj} {kvs : List (List Key × V)} {stay : Sto → Prop} (e : H a = some (.frz o (.dT kvs))) : ItR Z ρ H (Itkt a o kvs) (kvs.map fun p => .d (kT p.1)) stay := fun ρ' σ' H' g r st => by
  have e' := g.lk _ _ _ e
  refine ⟨fun i w hw => ?_, ⟨e', by rw [List.length_map]; exact Nat.le_refl _⟩⟩
  rw [List.getElem?_map] at hw
  obtain ⟨p, hp, rfl⟩ := Option.map_eq_some_iff.mp hw
  refine ⟨⟨e', (List.getElem?_eq_some_iff.mp hp).1⟩, fun y H2 yl => ?_⟩
  obtain ⟨rfl, k, v, q, hk, rfl, hq⟩ := yl
  rw [hp] at hk
  cases hk
  exact ⟨.refl, r, Rp.tup hq (rp_keysV _)⟩
theorem prs_keyL {κ : Type} {f : κ → PyData} {ρ : List Addr} {H : Hp} : ∀ {hk : List (κ × V)} {kvs : List (PyData × W)}, PRs K ρ H (hk.map fun p => (f p.1, p.2)) kvs → (kvs.map fun p => W.d p.1) = hk.map fun p => W.d (f p.1)
  | [], _, h => by cases h; rfl
  | p :: hk, _, h => by
    cases h with
    | cons h t => rw [List.map_cons, List.map_cons, prs_keyL t, ← h.1]
theorem rps_keyL {κ : Type} {f : κ → PyData} {ρ : List Addr} {H : Hp} : ∀ {hk : List (κ × V)} {kvs : List (PyData × PyData)}, RpPs K ρ H (hk.map fun p => (f p.1, p.2)) kvs → (kvs.map fun p => W.d p.1) = hk.map fun p => W.d (f p.1)
  | [], _, h => by cases h; rfl
  | p :: hk, _, h => by
    cases h with
    | cons h t => rw [List.map_cons, List.map_cons, rps_keyL t]
theorem itW_sim {ρ : List Addr} {σ : Sto} {H : Hp} {x : V} {Ra : List W → (Sto → Prop) → Sto → Prop} {R : It → Hp → Prop} (rl : Rel Z.K Z.T ρ σ H) : ∀ {w : W}, WR Z.K ρ H x w → itW σ Ra w → KI Z ρ H Ra R →
    (∃ a, x = .ref a ∧ ((∃ xs, SqL Z.K H a xs ∧ R (Itl Z.K a) H) ∨ (∃ xs, SqT Z.K H a xs ∧ R (Itt Z.K a) H) ∨ IDk a H R)) ∨ ∃ z, x = .str z ∧ R (Its z) H
  | .d (.list ds), h, q, k => by
    have h : Rp Z.K ρ H x (.list ds) := h
    cases h with
    | lst h1 h2 =>
      refine .inl ⟨_, rfl, .inl ⟨_, .inl h1.2, k _ _ _ _ _ _ .refl rl (it_list fun ρ' σ' H' g r _ => ?_) q⟩⟩
      exact ⟨_, .inl (g.sqO rl h1).2, rpAll_wrs (g.rpAll rl h2)⟩
  | .d (.tuple ds), h, q, k => by
    obtain ⟨a, xs, rfl, h1, h2⟩ := h.tup
    refine .inl ⟨_, rfl, .inr (.inl ⟨_, .inl (.inl h1), k _ _ _ _ _ _ .refl rl (it_tup fun ρ' σ' H' g r _ => ?_) q⟩)⟩
    exact ⟨_, .inl (.inl (g.tup rl h1)), rpAll_wrs (g.rpAll rl h2)⟩
  | .d (.str z), h, q, k => by
    refine .inr ⟨z, h.str, k _ _ _ _ _ _ .refl rl (fun ρ' σ' H' g r _ => ⟨fun i w hw => ?_, ?_⟩) q⟩
    · rw [List.getElem?_map, Array.getElem?_toList] at hw
      obtain ⟨c, hc, rfl⟩ := Option.map_eq_some_iff.mp hw
      refine ⟨(Array.getElem?_eq_some_iff.mp hc).1, fun y H2 yl => ?_⟩
      obtain ⟨rfl, c', hc', rfl⟩ := yl
      rw [hc] at hc'
      cases hc'
      exact ⟨.refl, r, Rp.str _⟩
    · show z.cps.size ≤ _
      simp
  | .ref i, h, q, k => by
    obtain ⟨a, ha, rfl⟩ := h
    rcases q with ⟨ws, hc, q⟩ | ⟨t, kvs, hc, q⟩
    · obtain ⟨xs, e1, e2⟩ := rl.cell i a _ ha hc
      refine .inl ⟨_, rfl, .inl ⟨_, .inl (.inl e1), k _ _ _ _ _ _ .refl rl (it_list fun ρ' σ' H' g r st => ?_) q⟩⟩
      obtain ⟨ys, e3, e4⟩ := r.cell i a _ (g.at_ ha) st
      exact ⟨ys, .inl (.inl e3), e4⟩
    · have cr := rl.cell i a _ ha hc
      cases t with
      | false =>
        obtain ⟨hk, ⟨o, e1⟩, e2⟩ := cr
        rw [prs_keyL e2] at q
        exact .inl ⟨_, rfl, .inr (.inr (.inl ⟨o, hk, e1, k _ _ _ _ _ _ .refl rl (it_dk e1) q⟩))⟩
      | true =>
        obtain ⟨hk, ⟨o, e1⟩, e2⟩ := cr
        rw [prs_keyL e2] at q
        exact .inl ⟨_, rfl, .inr (.inr (.inr (.inl ⟨o, hk, e1, k _ _ _ _ _ _ .refl rl (it_dt e1) q⟩)))⟩
  | .d .none, _, q, _ => q.elim
  | .d (.bool _), _, q, _ => q.elim
  | .d (.int _), _, q, _ => q.elim
  | .d (.dict ds), h, q, k => by
    have h : Rp Z.K ρ H x (.dict ds) := h
    have q : Ra (ds.map fun p => .d p.1) (fun _ => True) σ := q
    cases h with
    | dK n h1 h2 =>
      rename_i ad hk
      rw [rps_keyL h2] at q
      rcases h1 with h1 | ⟨o, h1⟩
      · refine .inl ⟨_, rfl, .inr (.inr (.inr (.inr (.inl ⟨_, h1, fun o => ?_⟩))))⟩
        have g : Go Z.T ρ H ρ (upd H ad (.frz o (.dK hk))) := Go.lockD n h1 True.intro
        exact k _ _ _ _ _ _ g (rl.lockD n h1 (fun ps z => by cases z)) (it_dk upd_same) q
      · exact .inl ⟨_, rfl, .inr (.inr (.inl ⟨o, _, h1, k _ _ _ _ _ _ .refl rl (it_dk h1) q⟩))⟩
    | dT n h1 h2 =>
      rename_i ad hk
      rw [rps_keyL h2] at q
      rcases h1 with h1 | ⟨o, h1⟩
      · refine .inl ⟨_, rfl, .inr (.inr (.inr (.inr (.inr ⟨_, h1, fun o => ?_⟩))))⟩
        have g : Go Z.T ρ H ρ (upd H ad (.frz o (.dT hk))) := Go.lockD n h1 True.intro
        exact k _ _ _ _ _ _ g (rl.lockD n h1 (fun ps z => by cases z)) (it_dt upd_same) q
      · exact .inl ⟨_, rfl, .inr (.inr (.inr (.inl ⟨o, _, h1, k _ _ _ _ _ _ .refl rl (it_dt h1) q⟩)))⟩
  | .scr _, _, q, _ => q.elim
instance sim_iU [ia : SimE Z E ta fa] : SimI Z E (iU Z.K ta) (aIt fa) := ⟨fun r er h k kx =>
  ia.sim r er h (fun _ _ _ _ _ g r' v h' => itW_sim r' v h' (k.go g)) kx⟩
/-! ### range -/
def rngL (lo : Int) (n : Nat) : List W := (List.range n).map fun i => .d (.int (lo + (i : Nat)))
theorem it_rng {ρ : List Addr} {H : Hp} (lo : Int) (n : Nat) : ItR Z ρ H (Itr lo n) (rngL lo n) (fun _ => True) := fun ρ' σ' H' g r st => by
  refine ⟨fun i w hw => ?_, by show n ≤ _; simp [rngL]⟩
  unfold rngL at hw
  rw [List.getElem?_map] at hw
  obtain ⟨j, hj, rfl⟩ := Option.map_eq_some_iff.mp hw
  obtain ⟨hl, ej⟩ := List.getElem?_eq_some_iff.mp hj
  have : j = i := by simpa using ej.symm
  subst this
  refine ⟨show j < n by simpa using hl, fun y H2 yl => ?_⟩
  obtain ⟨rfl, rfl⟩ := yl
  exact ⟨.refl, r, Rp.int _⟩
def aR1 (fr : AA) : AI := fun e σ R X => fr e σ (fun ws σ1 => ∃ j : Int, ws = [.d (.int j)] ∧ -(2 ^ 62) ≤ j ∧ j < 2 ^ 62 ∧ R (rngL 0 j.toNat) (fun _ => True) σ1) X
def aR2 (fr : AA) : AI := fun e σ R X => fr e σ (fun ws σ1 => ∃ i j : Int, ws = [.d (.int i), .d (.int j)] ∧ (-(2 ^ 62) ≤ i ∧ i < 2 ^ 62 ∧ -(2 ^ 62) ≤ j ∧ j < 2 ^ 62) ∧ R (rngL i (j - i).toNat) (fun _ => True) σ1) X
instance sim_r1 {t : TA} {fr : AA} [ir : SimA Z E t fr] : SimI Z E (iRng1 t) (aR1 fr) := ⟨fun r er h k kx =>
  ir.sim r er h (fun _ _ _ _ _ g r' v h' => by
    obtain ⟨j, rfl, h1, h2, q⟩ := h'
    cases v with
    | cons v1 v2 =>
      cases v2
      rw [v1.int]
      exact ⟨j, rfl, h1, h2, k _ _ _ _ _ _ g r' (it_rng 0 _) q⟩) kx⟩
instance sim_r2 {t : TA} {fr : AA} [ir : SimA Z E t fr] : SimI Z E (iRng2 t) (aR2 fr) := ⟨fun r er h k kx =>
  ir.sim r er h (fun _ _ _ _ _ g r' v h' => by
    obtain ⟨i, j, rfl, h1, q⟩ := h'
    cases v with
    | cons v1 v2 =>
      cases v2 with
      | cons v2 v3 =>
        cases v3
        rw [v1.int, v2.int]
        exact ⟨i, j, rfl, h1, k _ _ _ _ _ _ g r' (it_rng i _) q⟩) kx⟩
/-! ### targets of comprehensions -/
class MemC (i : Nat) (vs : List Nat) : Prop where
  mem : i ∈ vs
instance memC0 {i : Nat} {vs : List Nat} : MemC i (i :: vs) := ⟨by simp⟩
instance memC1 {i j : Nat} {vs : List Nat} [h : MemC i vs] : MemC i (j :: vs) := ⟨by simp [h.mem]⟩
def Agree (vs : List Nat) (s s2 : L2.St) : Prop := s2.length = s.length ∧ ∀ j, j ∉ vs → s2[j]? = s[j]?
class TgtIn (g : TG) (vs : List Nat) : Prop where
  out : ∀ {v : V} {s : L2.St} {H : Hp} {M : L2.St → Hp → Prop}, g v s H M → g v s H fun s2 H2 => Agree vs s s2 ∧ M s2 H2
class TgtsIn (g : TGs) (vs : List Nat) : Prop where
  out : ∀ {v : List V} {s : L2.St} {H : Hp} {M : L2.St → Hp → Prop}, g v s H M → g v s H fun s2 H2 => Agree vs s s2 ∧ M s2 H2
theorem Agree.refl (vs : List Nat) (s : L2.St) : Agree vs s s := ⟨rfl, fun _ _ => rfl⟩
theorem Agree.trans {vs : List Nat} {a b c : L2.St} (h : Agree vs a b) (h' : Agree vs b c) : Agree vs a c := ⟨h'.1.trans h.1, fun j hj => (h'.2 j hj).trans (h.2 j hj)⟩
instance tgt_name {i : Nat} {vs : List Nat} [h : MemC i vs] : TgtIn (gName i) vs := ⟨fun q => ⟨⟨by simp, fun j hj => List.getElem?_set_ne fun (z : i = j) => hj (by rw [← z]; exact h.mem)⟩, q⟩⟩
instance tgt_nil {vs : List Nat} : TgtsIn gNil vs := ⟨fun q => ⟨q.1, .refl _ _, q.2⟩⟩
class TgMono (g : TG) : Prop where
  mono : ∀ {v : V} {s : L2.St} {H : Hp} {M M' : L2.St → Hp → Prop}, (∀ a b, M a b → M' a b) → g v s H M → g v s H M'
class TgsMono (g : TGs) : Prop where
  mono : ∀ {v : List V} {s : L2.St} {H : Hp} {M M' : L2.St → Hp → Prop}, (∀ a b, M a b → M' a b) → g v s H M → g v s H M'
instance tgm_name {i : Nat} : TgMono (gName i) := ⟨fun f q => f _ _ q⟩
instance tgm_nil : TgsMono gNil := ⟨fun f q => ⟨q.1, f _ _ q.2⟩⟩
instance tgm_cons {g : TG} {t : TGs} [a : TgMono g] [b : TgsMono t] : TgsMono (gCons g t) := ⟨fun f q => by
  obtain ⟨v, r, e, q⟩ := q
  exact ⟨v, r, e, a.mono (fun s H z => b.mono f z) q⟩⟩
instance tgm_tup {K : PySem.W.Frag} {n : Nat} {t : TGs} [b : TgsMono t] : TgMono (gTup K n t) := ⟨fun f q => by
  obtain ⟨a, xs, e, h1, h2, q⟩ := q
  exact ⟨a, xs, e, h1, h2, b.mono f q⟩⟩
instance tgt_cons {g : TG} {t : TGs} {vs : List Nat} [a : TgtIn g vs] [am : TgMono g] [b : TgtsIn t vs] [bm : TgsMono t] : TgtsIn (gCons g t) vs := ⟨fun {v s H M} q => by
  obtain ⟨x, r, e, q⟩ := q
  refine ⟨x, r, e, am.mono (fun s1 H1 z => ?_) (a.out q)⟩
  exact bm.mono (fun s2 H2 z2 => ⟨z.1.trans z2.1, z2.2⟩) (b.out z.2)⟩
instance tgt_tup {K : PySem.W.Frag} {n : Nat} {t : TGs} {vs : List Nat} [b : TgtsIn t vs] : TgtIn (gTup K n t) vs := ⟨fun q => by
  obtain ⟨a, xs, e, h1, h2, q⟩ := q
  exact ⟨a, xs, e, h1, h2, b.out q⟩⟩
theorem wipe_get (s : L2.St) : ∀ (vs : List Nat) (j : Nat), (wipe s vs)[j]? = if j ∈ vs then (s[j]?).map (fun _ => none) else s[j]?
  | [], j => by simp [wipe]
  | v :: vs, j => by
    unfold wipe
    by_cases h : j = v
    · subst h
      rw [if_pos (by simp)]
      by_cases hl : j < s.length
      · rw [List.getElem?_set_self (by rw [wipe_length]; exact hl), List.getElem?_eq_getElem hl]; rfl
      · rw [List.getElem?_eq_none (by rw [List.length_set, wipe_length]; omega), List.getElem?_eq_none (by omega)]; rfl
    · rw [List.getElem?_set_ne (Ne.symm h), wipe_get s vs j]
      simp [h]
theorem wipe_agree {vs : List Nat} {s s2 : L2.St} (h : Agree vs (wipe s vs) s2) : wipe s2 vs = wipe s vs := by
  apply List.ext_getElem?
  intro j
  rw [wipe_get s2, wipe_get s]
  by_cases hj : j ∈ vs
  · rw [if_pos hj, if_pos hj]
    have hl : s2.length = s.length := by rw [h.1, wipe_length]
    by_cases hl2 : j < s.length
    · rw [List.getElem?_eq_getElem hl2, List.getElem?_eq_getElem (by omega)]; rfl
    · rw [List.getElem?_eq_none (by omega), List.getElem?_eq_none (by omega)]
  · rw [if_neg hj, if_neg hj, h.2 j hj, wipe_get s, if_neg hj]
def wipeE (e : Ev) : List Nat → Ev
  | [] => e
  | v :: vs => (wipeE e vs).set v none
theorem er_wipe {K : PySem.W.Frag} {ρ : List Addr} {H : Hp} {s : L2.St} {e : Ev} (h : ER K ρ H s e) : ∀ vs : List Nat, ER K ρ H (wipe s vs) (wipeE e vs)
  | [] => h
  | v :: vs => Paired.set (by exact True.intro) v (er_wipe h vs)
end
end Aw

/-! AwB: comprehensions. -/
namespace Aw
open PySem PySem.Spec PyProof.Rows L2 Mw
/-- the turns of a list comprehension; the list that grows is cell n -/
def lcGo (ag : AG) (ft : AT) (fa : AE) (e0 : Ev) (n : Nat) (stay : Sto → Prop) (X : XQ) (Fin : Sto → Prop) : List W → Sto → Prop
  | [], σ => stay σ ∧ Fin σ
  | w :: r, σ => stay σ ∧ ag w e0 σ (fun e2 σ2 => ft e2 σ2 (fun b σ3 => if b = true then fa e2 σ3 (fun y σ4 => ∃ acc, σ4[n]? = some (.lst acc) ∧ acc.length < sizeLine ∧ lcGo ag ft fa e0 n stay X Fin r (σ4.set n (.lst (acc ++ [y])))) X else lcGo ag ft fa e0 n stay X Fin r σ3) X)
def aYes : AT := fun _ σ Q _ => Q true σ
/-- .. that stays -/
def aLc (ai : AI) (ag : AG) (ft : AT) (fa : AE) (vs : List Nat) : AE := fun e σ Q X => ai e σ (fun items stay σ1 =>
  lcGo ag ft fa (wipeE e vs) σ1.length stay X (fun σf => ∃ ws ds, σf[σ1.length]? = some (.lst ws) ∧ FrzAll σ1.length σf ws ds ∧ Shed σ1.length σ1 σf ∧ Q (.d (.list ds)) (σf.take σ1.length)) items (σ1 ++ [.lst []])) X
/-- .. that is a cell -/
def aLcC (ai : AI) (ag : AG) (ft : AT) (fa : AE) (vs : List Nat) : AE := fun e σ Q X => ai e σ (fun items stay σ1 =>
  lcGo ag ft fa (wipeE e vs) σ1.length stay X (fun σf => Q (.ref σ1.length) σf) items (σ1 ++ [.lst []])) X
def tLcC (wi : TI) (g : TG) (tt : TT) (te : TE) (vs : List Nat) : TE := tLc wi g tt te vs
section
variable {Z : Zx} {E : L2.St → XK} {wi : TI} {ai : AI} {g : TG} {ag : AG} {tt : TT} {ft : AT} {ta : TE} {fa : AE} {vs : List Nat}
instance sim_yes : SimT Z E tYes aYes := ⟨fun r er h k _ => k _ _ _ _ .refl r h⟩
theorem lc_sim [ig : SimG Z g ag] [it : SimT Z E tt ft] [ia : SimE Z E ta fa] [tin : TgtIn g vs] [tm : TgMono g] {ρ ρ1 : List Addr} {σ σ1 : Sto} {H H1 : Hp} {s : L2.St} {e : Ev} {Ea : XQ} {Fin : Sto → Prop} {Q : VK} {J : It} {items : List W} {stay : Sto → Prop}
    (r : Rel Z.K Z.T ρ σ H) (er : ER Z.K ρ H s e) (kx : ∀ s2, KX Z ρ H Ea (E s2)) (g1 : Go Z.T ρ H ρ1 H1) (r1 : Rel Z.K Z.T ρ1 σ1 H1) (itr : ItR Z ρ1 H1 J items stay)
    (h1 : lcGo ag ft fa (wipeE e vs) σ1.length stay Ea Fin items (σ1 ++ [.lst []])) (D : Addr) (nD : H1 D = none)
    (fin : ∀ ρ' σ' H', Go Z.T ρ1 H1 ρ' H' → Rel Z.K Z.T ρ' σ' H' → ρ'[σ1.length]? = some D → Fin σ' → Q (.ref D) H') :
    ∃ W : Nat → Nat → Hp → Prop, (∃ m, W 0 m (upd H1 D (.lst []))) ∧ ∀ i m H, W i m H →
      (J.stop i H ∧ Q (.ref D) H) ∨ (J.go i H ∧ ∃ Nx : Hp → Prop, (∀ H', Nx H' → ∃ m', m' < m ∧ W (i + 1) m' H') ∧ ∀ x H', J.yld i H x H' → g x (wipe s vs) H' fun σ2 H2 => wipe σ2 vs = wipe s vs ∧ tt σ2 H2 fun b H3 =>
        if b = true then ta σ2 H3 fun y H4 => ∃ acc, H4 D = some (.lst acc) ∧ acc.length < sizeLine ∧ Nx (upd H4 D (.lst (acc ++ [y]))) else Nx H3) := by
  have gc : Go Z.T ρ1 H1 (ρ1 ++ [D]) (upd H1 D (.lst [])) := Go.cell nD
  have rc : Rel Z.K Z.T (ρ1 ++ [D]) (σ1 ++ [.lst []]) (upd H1 D (.lst [])) := r1.cell' nD ⟨[], upd_same, .nil⟩
  have hD : (ρ1 ++ [D])[σ1.length]? = some D := by rw [r1.len, List.getElem?_append_right (Nat.le_refl _), Nat.sub_self]; rfl
  refine ⟨fun i m H' => m = items.length - i ∧ i ≤ items.length ∧ ∃ ρ' σ', Go Z.T (ρ1 ++ [D]) (upd H1 D (.lst [])) ρ' H' ∧ Rel Z.K Z.T ρ' σ' H' ∧ lcGo ag ft fa (wipeE e vs) σ1.length stay Ea Fin (items.drop i) σ',
    ⟨_, rfl, Nat.zero_le _, _, _, .refl, rc, h1⟩, ?_⟩
  rintro i m H' ⟨rfl, hi, ρ', σ', g', r', h'⟩
  have g1' : Go Z.T ρ1 H1 ρ' H' := gc.trans g'
  by_cases hlt : i < items.length
  · rw [List.drop_eq_getElem_cons hlt] at h'
    obtain ⟨st, h'⟩ := h'
    obtain ⟨a1, a2⟩ := (itr _ _ _ g1' r' st).1 i items[i] (List.getElem?_eq_getElem hlt)
    refine .inr ⟨a1, fun H2 => i + 1 ≤ items.length ∧ ∃ ρ' σ', Go Z.T (ρ1 ++ [D]) (upd H1 D (.lst [])) ρ' H2 ∧ Rel Z.K Z.T ρ' σ' H2 ∧ lcGo ag ft fa (wipeE e vs) σ1.length stay Ea Fin (items.drop (i + 1)) σ', fun H2 n => ⟨_, by omega, rfl, n.1, n.2⟩, fun x H2 y => ?_⟩
    obtain ⟨g2, r2, v2⟩ := a2 x H2 y
    have g12 : Go Z.T ρ H ρ' H2 := (g1.trans g1').trans g2
    have er2 : ER Z.K ρ' H2 (wipe s vs) (wipeE e vs) := er_wipe (g12.er r er) vs
    refine tm.mono (fun s3 H3 z => ⟨wipe_agree z.1, z.2⟩) (tin.out (ig.sim r2 er2 v2 h' fun ρ3 σ3 H3 s3 e3 g3 r3 er3 h3 => ?_))
    have g13 := g12.trans g3
    refine it.sim r3 er3 h3 (fun ρ4 σ4 H4 b g4 r4 h4 => ?_) ((kx s3).go g13)
    have g14 := g13.trans g4
    cases b with
    | false => exact ⟨hlt, ρ4, σ4, ((g'.trans g2).trans g3).trans g4, r4, h4⟩
    | true =>
      refine ia.sim r4 (g4.er r3 er3) h4 (fun ρ5 σ5 H5 v w g5 r5 v5 h5 => ?_) ((kx s3).go g14)
      obtain ⟨acc, hc, hl, h5⟩ := h5
      have gD : Go Z.T (ρ1 ++ [D]) (upd H1 D (.lst [])) ρ5 H5 := (((g'.trans g2).trans g3).trans g4).trans g5
      have hD5 := gD.at_ hD
      obtain ⟨xs, e1, e2⟩ := r5.cell _ D _ hD5 hc
      have gp : Go Z.T ρ5 H5 ρ5 (upd H5 D (.lst (xs ++ [v]))) := Go.put (List.mem_of_getElem? hD5) e1
      exact ⟨xs, e1, by rw [Paired.len e2]; exact hl, hlt, ρ5, _, gD.trans gp, r5.put (c := .lst (acc ++ [w])) hD5 ⟨_, upd_same, gp.wrs r5 (paired_app e2 (.cons v5 .nil))⟩, h5⟩
  · have ei : i = items.length := by omega
    subst ei
    rw [List.drop_length] at h'
    obtain ⟨st, h'⟩ := h'
    exact .inl ⟨(itr _ _ _ g1' r' st).2, fin _ _ _ g1' r' (g'.at_ hD) h'⟩
instance sim_lc {F : XK} [ii : SimI Z (fun _ => F) wi ai] [ig : SimG Z g ag] [it : SimT Z (fun _ => F) tt ft] [ia : SimE Z (fun _ => F) ta fa] [tin : TgtIn g vs] [tm : TgMono g] : SimE Z (fun _ => F) (tLc wi g tt ta vs) (aLc ai ag ft fa vs) := ⟨fun r er h kq kx =>
  ii.sim r er h (fun ρ1 σ1 H1 J items stay g1 r1 itr h1 D nD => lc_sim (E := fun _ => F) r er (fun _ => kx) g1 r1 itr h1 D nD fun ρ' σ' H' g' r' hD f => by
    obtain ⟨ws, ds, hw, hf, sh, q⟩ := f
    have gt := g'.take (n := σ1.length) r1.len
    exact kq.d (g1.trans gt) (r1.take rfl r' sh) ((Frz.lst (Nat.le_refl _) hw hf).rp r' ⟨D, hD, rfl⟩) q) kx⟩
instance sim_lcC {F : XK} [ii : SimI Z (fun _ => F) wi ai] [ig : SimG Z g ag] [it : SimT Z (fun _ => F) tt ft] [ia : SimE Z (fun _ => F) ta fa] [tin : TgtIn g vs] [tm : TgMono g] : SimE Z (fun _ => F) (tLcC wi g tt ta vs) (aLcC ai ag ft fa vs) := ⟨fun r er h kq kx =>
  ii.sim r er h (fun ρ1 σ1 H1 J items stay g1 r1 itr h1 D nD => lc_sim (E := fun _ => F) r er (fun _ => kx) g1 r1 itr h1 D nD fun ρ' σ' H' g' r' hD q =>
    kq.r (g1.trans g') r' hD q) kx⟩
/-! ### generator expressions -/
/-- the turns: an accumulator; stp tells the next one, or that it ends here -/
def gnGo {α : Type} (ag : AG) (ft : AT) (fa : AE) (e0 : Ev) (stay : Sto → Prop) (X : XQ) (stp : α → W → (α → Prop) → Sto → Prop) (Fin : α → Sto → Prop) : List W → α → Sto → Prop
  | [], a, σ => stay σ ∧ Fin a σ
  | w :: r, a, σ => stay σ ∧ ag w e0 σ (fun e2 σ2 => ft e2 σ2 (fun b σ3 => if b = true then fa e2 σ3 (fun y σ4 => stp a y (fun a' => gnGo ag ft fa e0 stay X stp Fin r a' σ4) σ4) X else gnGo ag ft fa e0 stay X stp Fin r a σ3) X)
theorem gn_sim {α β : Type} {R : List Addr → Hp → β → α → Prop} {stC : β → V → Option β} {Fi : β → V → Hp → Prop} {En : β → Hp → Prop} {stp : α → W → (α → Prop) → Sto → Prop} {Fin : α → Sto → Prop}
    [ig : SimG Z g ag] [it : SimT Z E tt ft] [ia : SimE Z E ta fa] [tin : TgtIn g vs] [tm : TgMono g] {ρ ρ1 : List Addr} {σ σ1 : Sto} {H H1 : Hp} {s : L2.St} {e : Ev} {Ea : XQ} {J : It} {items : List W} {stay : Sto → Prop} {b0 : β} {a0 : α}
    (r : Rel Z.K Z.T ρ σ H) (er : ER Z.K ρ H s e) (kx : ∀ s2, KX Z ρ H Ea (E s2)) (g1 : Go Z.T ρ H ρ1 H1) (r1 : Rel Z.K Z.T ρ1 σ1 H1) (itr : ItR Z ρ1 H1 J items stay) (rab : R ρ1 H1 b0 a0)
    (go : ∀ ρ ρ' σ H H' b a, Rel Z.K Z.T ρ σ H → Go Z.T ρ H ρ' H' → R ρ H b a → R ρ' H' b a)
    (h1 : gnGo ag ft fa (wipeE e vs) stay Ea stp Fin items a0 σ1)
    (step : ∀ ρ' σ' H' b a v w N, Go Z.T ρ1 H1 ρ' H' → Rel Z.K Z.T ρ' σ' H' → R ρ' H' b a → WR Z.K ρ' H' v w → stp a w N σ' → (stC b v = none ∧ Fi b v H') ∨ ∃ b' a', stC b v = some b' ∧ R ρ' H' b' a' ∧ N a')
    (fin : ∀ ρ' σ' H' b a, Go Z.T ρ1 H1 ρ' H' → Rel Z.K Z.T ρ' σ' H' → R ρ' H' b a → Fin a σ' → En b H') :
    ∃ W : Nat → Nat → β → Hp → Prop, (∃ m, W 0 m b0 H1) ∧ turns J g tt ta vs stC Fi En s W := by
  refine ⟨fun i m b H' => m = items.length - i ∧ i ≤ items.length ∧ ∃ ρ' σ' a, Go Z.T ρ1 H1 ρ' H' ∧ Rel Z.K Z.T ρ' σ' H' ∧ R ρ' H' b a ∧ gnGo ag ft fa (wipeE e vs) stay Ea stp Fin (items.drop i) a σ',
    ⟨_, rfl, Nat.zero_le _, _, _, a0, .refl, r1, rab, h1⟩, ?_⟩
  rintro i m b H' ⟨rfl, hi, ρ', σ', a, g', r', rb, h'⟩
  by_cases hlt : i < items.length
  · rw [List.drop_eq_getElem_cons hlt] at h'
    obtain ⟨st, h'⟩ := h'
    obtain ⟨a1, a2⟩ := (itr _ _ _ g' r' st).1 i items[i] (List.getElem?_eq_getElem hlt)
    refine .inr ⟨a1, fun b2 H2 => i + 1 ≤ items.length ∧ ∃ ρ' σ' a, Go Z.T ρ1 H1 ρ' H2 ∧ Rel Z.K Z.T ρ' σ' H2 ∧ R ρ' H2 b2 a ∧ gnGo ag ft fa (wipeE e vs) stay Ea stp Fin (items.drop (i + 1)) a σ', fun b2 H2 n => ⟨_, by omega, rfl, n.1, n.2⟩, fun x H2 y => ?_⟩
    obtain ⟨g2, r2, v2⟩ := a2 x H2 y
    have g12 : Go Z.T ρ H ρ' H2 := (g1.trans g').trans g2
    have er2 : ER Z.K ρ' H2 (wipe s vs) (wipeE e vs) := er_wipe (g12.er r er) vs
    refine tm.mono (fun s3 H3 z => ⟨wipe_agree z.1, z.2⟩) (tin.out (ig.sim r2 er2 v2 h' fun ρ3 σ3 H3 s3 e3 g3 r3 er3 h3 => ?_))
    have g13 := g12.trans g3
    refine it.sim r3 er3 h3 (fun ρ4 σ4 H4 c g4 r4 h4 => ?_) ((kx s3).go g13)
    have g14 := g13.trans g4
    have g24 : Go Z.T ρ' H' ρ4 H4 := (g2.trans g3).trans g4
    cases c with
    | false => exact ⟨hlt, ρ4, σ4, a, g'.trans g24, r4, go _ _ _ _ _ _ _ r' g24 rb, h4⟩
    | true =>
      refine ia.sim r4 (g4.er r3 er3) h4 (fun ρ5 σ5 H5 v w g5 r5 v5 h5 => ?_) ((kx s3).go g14)
      have g25 := g24.trans g5
      rcases step ρ5 σ5 H5 b a v w _ (g'.trans g25) r5 (go _ _ _ _ _ _ _ r' g25 rb) v5 h5 with z | ⟨b', a', z1, z2, z3⟩
      · exact .inl z
      · exact .inr ⟨b', z1, hlt, ρ5, σ5, a', g'.trans g25, r5, z2, z3⟩
  · have ei : i = items.length := by omega
    subst ei
    rw [List.drop_length] at h'
    obtain ⟨st, h'⟩ := h'
    exact .inl ⟨(itr _ _ _ g' r' st).2, fin _ _ _ _ _ g' r' rb h'⟩
/-- tuple(elt for ..) -/
def aTupG (ai : AI) (ag : AG) (ft : AT) (fa : AE) (vs : List Nat) : AE := fun e σ Q X => ai e σ (fun items stay σ1 =>
  gnGo ag ft fa (wipeE e vs) stay X (fun (a : List PyData) w N _ => ∃ d, w = .d d ∧ a.length < sizeLine ∧ N (a ++ [d])) (fun a σf => Q (.d (.tuple a)) σf) items [] σ1) X
def aAllG (ai : AI) (ag : AG) (ft : AT) (fa : AE) (vs : List Nat) (go : Bool) : AE := fun e σ Q X => ai e σ (fun items stay σ1 =>
  gnGo ag ft fa (wipeE e vs) stay X (fun (_ : Unit) w N σ' => ∃ b, w = .d (.bool b) ∧ if b = go then N () else Q (.d (.bool b)) σ') (fun _ σf => Q (.d (.bool go)) σf) items () σ1) X
class TabIn (Z : Zx) (P : Addr) : Prop where
  mem : P ∈ Z.T.tb
instance sim_tupG {F : XK} {P : Addr} [tb : TabIn Z P] [ii : SimI Z (fun _ => F) wi ai] [ig : SimG Z g ag] [it : SimT Z (fun _ => F) tt ft] [ia : SimE Z (fun _ => F) ta fa] [tin : TgtIn g vs] [tm : TgMono g] : SimE Z (fun _ => F) (tTupG P wi g tt ta vs) (aTupG ai ag ft fa vs) := ⟨fun r er h kq kx =>
  ii.sim r er h (fun ρ1 σ1 H1 J items stay g1 r1 itr h1 => by
    refine ⟨r1.tb P tb.mem, fun H2 gt => ?_⟩
    have gr := Grw.one r1.tb tb.mem gt
    have g2 : Go Z.T ρ1 H1 ρ1 H2 := Go.grw r1.tb gr
    refine gn_sim (E := fun _ => F) (R := fun ρ H (b : List V) (a : List PyData) => RpAll Z.K ρ H b a) r er (fun _ => kx) (g1.trans g2) (r1.grw gr) (itr.go g2) .nil (fun _ _ _ _ _ _ _ r g h => g.rpAll r h) h1 (fun ρ' σ' H' b a v w N g' r' rb v' q => ?_) fun ρ' σ' H' b a g' r' rb q p n => ?_
    · obtain ⟨d, rfl, hl, q⟩ := q
      refine .inr ⟨b ++ [v], a ++ [d], ?_, rpAll_app rb (.cons v' .nil), q⟩
      show (if b.length < sizeLine then some (b ++ [v]) else none) = _
      rw [if_pos (by rw [rpAll_len rb]; exact hl)]
    · exact (kq.go ((g1.trans g2).trans g')).layT r' n rb q) kx⟩
theorem all_sim {F : XK} {P : Addr} {go : Bool} [tb : TabIn Z P] [ii : SimI Z (fun _ => F) wi ai] [ig : SimG Z g ag] [it : SimT Z (fun _ => F) tt ft] [ia : SimE Z (fun _ => F) ta fa] [tin : TgtIn g vs] [tm : TgMono g]
    {ρ : List Addr} {σ : Sto} {H : Hp} {s : L2.St} {e : Ev} {Qa : QK} {Ea : XQ} {Q : VK} (r : Rel Z.K Z.T ρ σ H) (er : ER Z.K ρ H s e) (h : aAllG ai ag ft fa vs go e σ Qa Ea) (kq : KQ Z ρ H Qa Q) (kx : KX Z ρ H Ea F) :
    wi s H fun J H1 => GxR.TabG H1 P ∧ ∀ H2, GxR.Tabbed P H1 H2 →
      ∃ W : Nat → Nat → Unit → Hp → Prop, (∃ m, W 0 m () H2) ∧ turns J g tt ta vs (stpA go) (fun _ y H => y = .bl (!go) ∧ Q (.bl (!go)) H) (fun _ H => Q (.bl go) H) s W :=
  ii.sim r er h (fun ρ1 σ1 H1 J items stay g1 r1 itr h1 => by
    refine ⟨r1.tb P tb.mem, fun H2 gt => ?_⟩
    have gr := Grw.one r1.tb tb.mem gt
    have g2 : Go Z.T ρ1 H1 ρ1 H2 := Go.grw r1.tb gr
    refine gn_sim (E := fun _ => F) (R := fun ρ H (b : Unit) (a : Unit) => True) r er (fun _ => kx) (g1.trans g2) (r1.grw gr) (itr.go g2) True.intro (fun _ _ _ _ _ _ _ r g h => h) h1 (fun ρ' σ' H' b a v w N g' r' rb v' q => ?_) fun ρ' σ' H' b a g' r' rb q => ?_
    · obtain ⟨c, rfl, q⟩ := q
      rw [v'.bool]
      by_cases hc : c = go
      · subst hc
        rw [if_pos rfl] at q
        exact .inr ⟨(), (), if_pos rfl, True.intro, q⟩
      · rw [if_neg hc] at q
        have : c = !go := by cases c <;> cases go <;> first | rfl | exact absurd rfl hc
        subst this
        exact .inl ⟨if_neg (fun z => hc (V.bl.inj z)), rfl, kq.d ((g1.trans g2).trans g') r' (Rp.bl _) q⟩
    · exact kq.d ((g1.trans g2).trans g') r' (Rp.bl _) q) kx
instance sim_allG {F : XK} {P : Addr} [tb : TabIn Z P] [ii : SimI Z (fun _ => F) wi ai] [ig : SimG Z g ag] [it : SimT Z (fun _ => F) tt ft] [ia : SimE Z (fun _ => F) ta fa] [tin : TgtIn g vs] [tm : TgMono g] : SimE Z (fun _ => F) (tAllG P wi g tt ta vs) (aAllG ai ag ft fa vs true) := ⟨fun r er h kq kx => all_sim (go := true) r er h kq kx⟩
instance sim_anyG {F : XK} {P : Addr} [tb : TabIn Z P] [ii : SimI Z (fun _ => F) wi ai] [ig : SimG Z g ag] [it : SimT Z (fun _ => F) tt ft] [ia : SimE Z (fun _ => F) ta fa] [tin : TgtIn g vs] [tm : TgMono g] : SimE Z (fun _ => F) (tAnyG P wi g tt ta vs) (aAllG ai ag ft fa vs false) := ⟨fun r er h kq kx => all_sim (go := false) r er h kq kx⟩
/-! ### dict comprehensions, keys that are tuples -/
noncomputable def dcGo (ag : AG) (ft : AT) (fk fv : AE) (e0 : Ev) (n : Nat) (stay : Sto → Prop) (X : XQ) (Fin : Sto → Prop) : List W → Sto → Prop
  | [], σ => stay σ ∧ Fin σ
  | w :: r, σ => stay σ ∧ ag w e0 σ (fun e2 σ2 => ft e2 σ2 (fun b σ3 => if b = true then fk e2 σ3 (fun y σ4 => fv e2 σ4 (fun z σ5 => ∃ kd acc, y = .d kd ∧ isKT kd = true ∧ σ5[n]? = some (.dct true acc) ∧ acc.length < sizeLine ∧ dcGo ag ft fk fv e0 n stay X Fin r (σ5.set n (.dct true (dput acc kd z)))) X) X else dcGo ag ft fk fv e0 n stay X Fin r σ3) X)
/-- a dict comprehension makes a cell -/
noncomputable def aDcT (ai : AI) (ag : AG) (ft : AT) (fk fv : AE) (vs : List Nat) : AE := fun e σ Q X => ai e σ (fun items stay σ1 =>
  dcGo ag ft fk fv (wipeE e vs) σ1.length stay X (fun σf => Q (.ref σ1.length) σf) items (σ1 ++ [.dct true []])) X
instance sim_dcT {F : XK} {tb : TE} {fb : AE} [ii : SimI Z (fun _ => F) wi ai] [ig : SimG Z g ag] [it : SimT Z (fun _ => F) tt ft] [ia : SimE Z (fun _ => F) ta fa] [ib : SimE Z (fun _ => F) tb fb] [tin : TgtIn g vs] [tm : TgMono g] : SimE Z (fun _ => F) (tDcT wi g tt ta tb vs) (aDcT ai ag ft fa fb vs) := ⟨fun {ρ σ H s e Qa Ea Q} r er h kq kx =>
  ii.sim r er h (fun ρ1 σ1 H1 J items stay g1 r1 itr h1 D nD => by
    have gc : Go Z.T ρ1 H1 (ρ1 ++ [D]) (upd H1 D (.dT [])) := Go.cell nD
    have rc : Rel Z.K Z.T (ρ1 ++ [D]) (σ1 ++ [.dct true []]) (upd H1 D (.dT [])) := r1.cell' nD ⟨[], upd_same, .nil⟩
    have hD : (ρ1 ++ [D])[σ1.length]? = some D := by rw [r1.len, List.getElem?_append_right (Nat.le_refl _), Nat.sub_self]; rfl
    refine ⟨fun i m H' => m = items.length - i ∧ i ≤ items.length ∧ ∃ ρ' σ', Go Z.T (ρ1 ++ [D]) (upd H1 D (.dT [])) ρ' H' ∧ Rel Z.K Z.T ρ' σ' H' ∧ dcGo ag ft fa fb (wipeE e vs) σ1.length stay Ea (fun σf => Qa (.ref σ1.length) σf) (items.drop i) σ',
      ⟨_, rfl, Nat.zero_le _, _, _, .refl, rc, h1⟩, ?_⟩
    rintro i m H' ⟨rfl, hi, ρ', σ', g', r', h'⟩
    have g1' : Go Z.T ρ1 H1 ρ' H' := gc.trans g'
    by_cases hlt : i < items.length
    · rw [List.drop_eq_getElem_cons hlt] at h'
      obtain ⟨st, h'⟩ := h'
      obtain ⟨a1, a2⟩ := (itr _ _ _ g1' r' st).1 i items[i] (List.getElem?_eq_getElem hlt)
      refine .inr ⟨a1, fun H2 => i + 1 ≤ items.length ∧ ∃ ρ' σ', Go Z.T (ρ1 ++ [D]) (upd H1 D (.dT [])) ρ' H2 ∧ Rel Z.K Z.T ρ' σ' H2 ∧ dcGo ag ft fa fb (wipeE e vs) σ1.length stay Ea (fun σf => Qa (.ref σ1.length) σf) (items.drop (i + 1)) σ', fun H2 n => ⟨_, by omega, rfl, n.1, n.2⟩, fun x H2 y => ?_⟩
      obtain ⟨g2, r2, v2⟩ := a2 x H2 y
      have g12 : Go Z.T ρ H ρ' H2 := (g1.trans g1').trans g2
      have er2 : ER Z.K ρ' H2 (wipe s vs) (wipeE e vs) := er_wipe (g12.er r er) vs
      refine tm.mono (fun s3 H3 z => ⟨wipe_agree z.1, z.2⟩) (tin.out (ig.sim r2 er2 v2 h' fun ρ3 σ3 H3 s3 e3 g3 r3 er3 h3 => ?_))
      have g13 := g12.trans g3
      refine it.sim r3 er3 h3 (fun ρ4 σ4 H4 b g4 r4 h4 => ?_) (kx.go g13)
      have g14 := g13.trans g4
      cases b with
      | false => exact ⟨hlt, ρ4, σ4, ((g'.trans g2).trans g3).trans g4, r4, h4⟩
      | true =>
        refine ia.sim r4 (g4.er r3 er3) h4 (fun ρ5 σ5 H5 v w g5 r5 v5 h5 => ?_) (kx.go g14)
        have g15 := g14.trans g5
        refine ib.sim r5 ((g4.trans g5).er r3 er3) h5 (fun ρ6 σ6 H6 v' w' g6 r6 v6 h6 => ?_) (kx.go g15)
        obtain ⟨kd, acc, rfl, hk, hc, hl, h6⟩ := h6
        have gD : Go Z.T (ρ1 ++ [D]) (upd H1 D (.dT [])) ρ6 H6 := ((((g'.trans g2).trans g3).trans g4).trans g5).trans g6
        have hD6 := gD.at_ hD
        obtain ⟨hkv, e1, e2⟩ := r6.cell _ D _ hD6 hc
        obtain ⟨ks, rfl⟩ := isKT_of hk
        obtain ⟨bk, rfl, hb⟩ := rp_keyT (g6.rp r5 v5)
        have gp : Go Z.T ρ6 H6 ρ6 (upd H6 D (.dT (putK hkv ks v'))) := Go.put (List.mem_of_getElem? hD6) e1
        exact ⟨hkv, ks, bk, rfl, hb, e1, by rw [prs_len e2]; exact hl, hlt, ρ6, _, gD.trans gp, r6.put (c := .dct true (dput acc (kT ks) w')) hD6 ⟨_, upd_same, gp.prs r6 (prs_put (fun _ _ => kT_inj) ks v6 e2)⟩, h6⟩
    · have ei : i = items.length := by omega
      subst ei
      rw [List.drop_length] at h'
      obtain ⟨st, h'⟩ := h'
      exact .inl ⟨(itr _ _ _ g1' r' st).2, kq.r (g1.trans g1') r' (g'.at_ hD) h'⟩) kx⟩
end
end Aw

/-! AwC: built-ins, methods, displays. -/
namespace Aw
open PySem PySem.Spec PyProof.Rows L2 Mw
section
variable {X : Cx} {K : PySem.W.Frag} {k : Nat} {Z : Zx} {E : L2.St → XK} {ta tb tc : TE} {fa fb fc : AE} {t : TA} {fr : AA}
theorem wrs1 {ρ : List Addr} {H : Hp} {xs : List V} {w : W} (h : WRs K ρ H xs [w]) : ∃ x, xs = [x] ∧ WR K ρ H x w := by
  cases h with
  | cons h t => cases t; exact ⟨_, rfl, h⟩
/-! ### len -/
def rLenU (K : PySem.W.Frag) : List V → Hp → VK → Prop := fun xs H Q => (∃ p ys, xs = [.ref p] ∧ (SqL K H p ys ∨ SqT K H p ys) ∧ Q (.int ys.length) H) ∨ (∃ z, xs = [.str z] ∧ z.length ≤ sizeLine ∧ Q (.int z.length) H)
theorem call_lenU (hK : X.K = K) : CallR X (.builtin "len") (rLenU K) := by subst hK; exact call_len_seq.or call_len_str
def lenW : List W → Sto → QK → Prop := fun ws σ Q => ∃ w, ws = [w] ∧ match w with
  | .d (.str z) => z.length ≤ sizeLine ∧ Q (.d (.int z.length)) σ
  | _ => ∃ ys, itemsOf σ w = some ys ∧ Q (.d (.int ys.length)) σ
instance sim_lenU : SimC Z (rLenU Z.K) lenW := ⟨fun {ρ σ H xs ws Qa Q} rl v q kq => by
  obtain ⟨w, rfl, q⟩ := q
  obtain ⟨x, rfl, v1⟩ := wrs1 v
  have gen : (∃ ys, itemsOf σ w = some ys ∧ Qa (.d (.int ys.length)) σ) → rLenU Z.K [x] H Q := fun ⟨ys, h1, h2⟩ => by
    obtain ⟨a, xs, rfl, hr, hw⟩ := itemsOf_rd rl v1 h1
    refine .inl ⟨a, xs, rfl, hr.elim (fun z => .inl (.inl z)) (fun z => .inr (.inl (.inl z))), ?_⟩
    rw [Paired.len hw]
    exact kq.d .refl rl (Rp.int _) h2
  cases w with
  | ref i => exact gen q
  | scr i => exact gen q
  | d y =>
    cases y <;> first | exact gen q | skip
    rw [v1.str]
    exact .inr ⟨_, rfl, q.1, kq.d .refl rl (Rp.int _) q.2⟩⟩
/-! ### list(x), tuple(x) -/
def rListU (K : PySem.W.Frag) : List V → Hp → VK → Prop := fun xs H Q => ∃ p ys, xs = [.ref p] ∧ (SqL K H p ys ∨ SqT K H p ys) ∧ ∀ l, H l = none → Q (.ref l) (upd H l (.lst ys))
theorem call_listU (hK : X.K = K) : CallR X (.type "list") (rListU K) := by subst hK; exact call_list_of
/-- .. to be a cell -/
def rListC (K : PySem.W.Frag) : List V → Hp → VK → Prop := rListU K
theorem call_listC (hK : X.K = K) : CallR X (.type "list") (rListC K) := call_listU hK
def listW : List W → Sto → QK → Prop := fun ws σ Q => ∃ w ys ds, ws = [w] ∧ itemsOf σ w = some ys ∧ pures ys = some ds ∧ Q (.d (.list ds)) σ
def listCW : List W → Sto → QK → Prop := fun ws σ Q => ∃ w ys, ws = [w] ∧ itemsOf σ w = some ys ∧ Q (.ref σ.length) (σ ++ [.lst ys])
instance sim_listU : SimC Z (rListU Z.K) listW := ⟨fun {ρ σ H xs ws Qa Q} rl v q kq => by
  obtain ⟨w, ys, ds, rfl, h1, h2, q⟩ := q
  cases v with
  | cons v1 v2 =>
    cases v2
    obtain ⟨a, xs, rfl, hr, hw⟩ := itemsOf_rd rl v1 h1
    exact ⟨a, xs, rfl, hr.elim (fun z => .inl (.inl z)) (fun z => .inr (.inl (.inl z))), fun p n => kq.layL rl n (pures_rp hw h2) q⟩⟩
instance sim_listC : SimC Z (rListC Z.K) listCW := ⟨fun {ρ σ H xs ws Qa Q} rl v q kq => by
  obtain ⟨w, ys, rfl, h1, q⟩ := q
  cases v with
  | cons v1 v2 =>
    cases v2
    obtain ⟨a, xs, rfl, hr, hw⟩ := itemsOf_rd rl v1 h1
    exact ⟨a, xs, rfl, hr.elim (fun z => .inl (.inl z)) (fun z => .inr (.inl (.inl z))), fun p n => kq.layC rl n hw q⟩⟩
def rTupleU (K : PySem.W.Frag) : List V → Hp → VK → Prop := fun xs H Q => ∃ p ys, xs = [.ref p] ∧ ((SqL K H p ys ∧ ∀ l, H l = none → Q (.ref l) (upd H l (.tup ys))) ∨ (SqT K H p ys ∧ Q (.ref p) H))
theorem call_tupleU (hK : X.K = K) : CallR X (.type "tuple") (rTupleU K) := by subst hK; exact call_tuple_of
def tupleW : List W → Sto → QK → Prop := fun ws σ Q => ∃ w ys ds, ws = [w] ∧ itemsOf σ w = some ys ∧ pures ys = some ds ∧ Q (.d (.tuple ds)) σ
instance sim_tupleU : SimC Z (rTupleU Z.K) tupleW := ⟨fun {ρ σ H xs ws Qa Q} rl v q kq => by
  obtain ⟨w, ys, ds, rfl, h1, h2, q⟩ := q
  cases v with
  | cons v1 v2 =>
    cases v2
    obtain ⟨a, xs, rfl, hr, hw⟩ := itemsOf_rd rl v1 h1
    have rp := pures_rp hw h2
    refine ⟨a, xs, rfl, hr.elim (fun z => .inl ⟨.inl z, fun p n => kq.layT rl n rp q⟩) (fun z => .inr ⟨.inl (.inl z), kq.d .refl rl (Rp.tup z rp) q⟩)⟩⟩
/-! ### ord, int -/
def rOrdU : List V → Hp → VK → Prop := fun xs H Q => ∃ x, xs = [.str x] ∧ x.length = 1 ∧ Q (.int (x.cps.getD 0 0 : Nat)) H
theorem call_ordU : CallR X (.builtin "ord") rOrdU := call_ord
def ordW : List W → Sto → QK → Prop := fun ws σ Q => ∃ x, ws = [.d (.str x)] ∧ x.length = 1 ∧ Q (.d (.int (x.cps.getD 0 0 : Nat))) σ
instance sim_ordU : SimC Z rOrdU ordW := ⟨fun {ρ σ H xs ws Qa Q} rl v q kq => by
  obtain ⟨x, rfl, h1, q⟩ := q
  cases v with
  | cons v1 v2 =>
    cases v2
    rw [v1.str]
    exact ⟨x, rfl, h1, kq.d .refl rl (Rp.int _) q⟩⟩
def rIntU : List V → Hp → VK → Prop := fun xs H Q => (∃ i, xs = [.int i] ∧ Q (.int i) H) ∨ ∃ k, xs = [.bl k] ∧ Q (.int (if k then 1 else 0)) H
theorem call_intU : CallR X (.type "int") rIntU := call_int1
def intW : List W → Sto → QK → Prop := fun ws σ Q => (∃ i, ws = [.d (.int i)] ∧ Q (.d (.int i)) σ) ∨ ∃ b, ws = [.d (.bool b)] ∧ Q (.d (.int (if b = true then 1 else 0))) σ
instance sim_intU : SimC Z rIntU intW := ⟨fun {ρ σ H xs ws Qa Q} rl v q kq => by
  rcases q with ⟨i, rfl, q⟩ | ⟨b, rfl, q⟩
  · cases v with
    | cons v1 v2 =>
      cases v2
      rw [v1.int]
      exact .inl ⟨i, rfl, kq.d .refl rl (Rp.int _) q⟩
  · cases v with
    | cons v1 v2 =>
      cases v2
      rw [v1.bool]
      exact .inr ⟨b, rfl, kq.d .refl rl (Rp.int _) q⟩⟩
/-! ### repr -/
def rReprU (K : PySem.W.Frag) : List V → Hp → VK → Prop := rRepr K
theorem call_reprU (hK : X.K = K) (hg : X.A.guards = some []) (hr : Room k X.A) : CallR X (.builtin "repr") (rReprU K) := by subst hK; exact call_repr hg hr.units
structure Shw (d : PyData) : Prop where
  s : d.showable = true
  l : d.canLay0 = true
  p : d.depth ≤ 32
  z : d.shown.length ≤ 16000000
def reprW : List W → Sto → QK → Prop := fun ws σ Q => ∃ w d, ws = [w] ∧ dat σ w = some d ∧ Shw d ∧ Q (.d (.str d.shown)) σ
instance sim_reprU : SimC Z (rReprU Z.K) reprW := ⟨fun {ρ σ H xs ws Qa Q} rl v q kq => by
  obtain ⟨w, d, rfl, h1, sh, q⟩ := q
  cases v with
  | cons v1 v2 =>
    cases v2
    exact ⟨_, d, rfl, (dat_tp rl v1 h1).dp sh.l, sh.s, sh.l, sh.p, sh.z, kq.d .refl rl (Rp.str _) q⟩⟩
/-! ### isinstance(x, T) -/
def tIsi (K : PySem.W.Frag) (n : String) (te : TE) : TE := tCB (rIsi K) (tCons te (tCons (tC (.ty n)) tNil))
def aIsi (n : String) (fa : AE) : AE := fun e σ Q X => fa e σ (fun w σ1 => ∃ d b, dat σ1 w = some d ∧ (∀ ds, d ≠ .dict ds) ∧ kitB (tyN d) n = some b ∧ Q (.d (.bool b)) σ1) X
theorem tyX_tp {ρ : List Addr} {H : Hp} {x : V} : ∀ {d : PyData}, Tp K ρ H x d → (∀ ds, d ≠ .dict ds) → TyX K H x (.type (tyN d))
  | .none, h, _ => by rw [h.none]; exact .base .non
  | .bool b, h, _ => by rw [h.bool]; exact .base (.bl b)
  | .int b, h, _ => by rw [h.int]; exact .base (.int b)
  | .str b, h, _ => by rw [h.str]; exact .base (.str b)
  | .list ds, ⟨a, xs, e, h1, _⟩, _ => by
    subst e
    rcases h1 with h1 | ⟨o, h1⟩
    · exact .base (.lst h1)
    · exact .base (.frz h1)
  | .tuple ds, h, _ => by
    obtain ⟨a, xs, rfl, h1, _⟩ := h.tup
    exact .base (.tup h1)
  | .dict ds, _, n => absurd rfl (n ds)
instance sim_isi {n : String} [ia : SimE Z E ta fa] : SimE Z E (tIsi Z.K n ta) (aIsi n fa) := ⟨fun r er h kq kx =>
  ia.sim r er h (fun _ _ _ _ _ g r' v h' => by
    obtain ⟨d, b, h1, h2, h3, q⟩ := h'
    exact ⟨_, .ty n, _, _, b, rfl, .ty n, tyX_tp (dat_tp r' v h1) h2, kit_ty h3, kq.d g r' (Rp.bl b) q⟩) kx⟩
/-! ### sorted(d), d a cell whose keys are names; max(ns, default=d) -/
def srtW : List W → Sto → QK → Prop := fun ws σ Q => ∃ i kvs ns, ws = [.ref i] ∧ σ[i]? = some (.dct true kvs) ∧ keys kvs = ns.map nmD ∧ Q (.d (.list ((srt ns).map nmD))) σ
theorem nmD_kT (n : Nm) : nmD n = kT (nmK n) := rfl
theorem prs_names {ρ : List Addr} {H : Hp} : ∀ {hk : List (List Key × V)} {kvs : List (PyData × W)} {ns : List Nm}, PRs K ρ H (hk.map fun p => (kT p.1, p.2)) kvs → keys kvs = ns.map nmD → hk.map (·.1) = ns.map nmK
  | [], _, [], .nil, _ => rfl
  | [], _, _ :: _, .nil, e => by cases e
  | p :: hk, q :: kvs, n :: ns, .cons h t, e => by
    have e1 := List.cons.inj (show q.1 :: keys kvs = nmD n :: ns.map nmD from e)
    have h1 : p.1 = nmK n := kT_inj (h.1.trans e1.1)
    rw [List.map_cons, List.map_cons, h1, prs_names t e1.2]
  | p :: hk, q :: kvs, [], .cons h t, e => by cases e
theorem nms_rp {ρ : List Addr} {H : Hp} : ∀ {ns : List Nm} {bs : List Addr}, Nms H ns bs → RpAll K ρ H (bs.map V.ref) (ns.map nmD)
  | _, _, .nil => .nil
  | _, _, .cons h t => .cons (.tup h (.cons (.int _) (.cons (.str _) .nil))) (nms_rp t)
def rSortN : List V → Hp → VK → Prop := rSortT
theorem call_sortN (hc : X.calm = true) (hr : Room k X.A) : CallR X (.builtin "sorted") rSortN := call_sortT hc (by have := hr.un; omega)
instance sim_sortN : SimC Z rSortN srtW := ⟨fun {ρ σ H xs ws Qa Q} rl v q kq => by
  obtain ⟨i, kvs, ns, rfl, hc, hk, q⟩ := q
  cases v with
  | cons v1 v2 =>
    cases v2
    obtain ⟨a, ha, rfl⟩ := v1
    obtain ⟨hkv, e1, e2⟩ := rl.cell i a _ ha hc
    exact ⟨a, hkv, ns, rfl, e1, prs_names e2 hk, fun p bs n nm => kq.layL rl n (nms_rp nm) q⟩⟩
theorem call_maxA (hK : X.K = K) (hc : X.calm = true) (hr : Room k X.A) : CallRK X (.builtin "max") [Str.ofString "default"] (rMaxDef K) := by subst hK; exact call_maxDef hc hr.units
def aMaxD (fr fk : AA) : AE := fun e σ Q X => fr e σ (fun ws σ1 => fk e σ1 (fun zs σ2 => ∃ w ns d, ws = [w] ∧ zs = [.d (.int d)] ∧ dat σ2 w = some (.list (ns.map .int)) ∧ Q (.d (.int (maxZ d ns))) σ2) X) X
theorem rpAll_ints {ρ : List Addr} {H : Hp} : ∀ {ns : List Int} {xs : List V}, RpAll K ρ H xs (ns.map PyData.int) → xs = ns.map V.int
  | [], _, h => by cases h; rfl
  | n :: ns, _, h => by
    cases h with
    | cons h t =>
      cases h
      rw [rpAll_ints t]
      rfl
instance sim_maxD {tk : TA} {fk : AA} [ia : SimA Z E t fr] [ib : SimA Z E tk fk] : SimE Z E (tCKw (rMaxDef Z.K) t tk) (aMaxD fr fk) := ⟨fun r er h kq kx =>
  ia.sim r er h (fun _ _ _ _ _ g1 r1 v1 h1 => ib.sim r1 (g1.er r er) h1 (fun _ _ _ _ _ g2 r2 v2 h2 => by
    obtain ⟨w, ns, d, rfl, rfl, hd, q⟩ := h2
    obtain ⟨x, rfl, vx⟩ := wrs1 v1
    obtain ⟨y, rfl, vy⟩ := wrs1 v2
    obtain ⟨a, xs, rfl, hr, hp⟩ := dat_tp r2 (g2.wr r1 vx) hd
    have := rpAll_ints hp
    subst this
    exact ⟨a, ns, d, rfl, by rw [vy.int], .inl hr, (kq.go (g1.trans g2)).d .refl r2 (Rp.int _) q⟩) (kx.go g1)) kx⟩
/-! ### displays -/
def aLst (fr : AA) : AE := fun e σ Q X => fr e σ (fun ws σ1 => ∃ ds, pures ws = some ds ∧ ds.length ≤ sizeLine ∧ Q (.d (.list ds)) σ1) X
instance sim_lst [ir : SimA Z E t fr] : SimE Z E (tLst t) (aLst fr) := ⟨fun r er h k kx =>
  ir.sim r er h (fun _ _ _ _ _ g1 r1 v1 h1 => by
    obtain ⟨ds, hp, hl, q⟩ := h1
    have ra := pures_rp v1 hp
    exact ⟨by rw [rpAll_len ra]; exact hl, fun p n => (k.go g1).layL r1 n ra q⟩) kx⟩
def tLstC (t : TA) : TE := tLst t
def aLstC (fr : AA) : AE := fun e σ Q X => fr e σ (fun ws σ1 => ws.length ≤ sizeLine ∧ Q (.ref σ1.length) (σ1 ++ [.lst ws])) X
instance sim_lstC [ir : SimA Z E t fr] : SimE Z E (tLstC t) (aLstC fr) := ⟨fun r er h k kx =>
  ir.sim r er h (fun _ _ _ _ _ g1 r1 v1 h1 => ⟨by rw [Paired.len v1]; exact h1.1, fun p n => (k.go g1).layC r1 n v1 h1.2⟩) kx⟩
def aDNew (b : Bool) : AE := fun _ σ Q _ => Q (.ref σ.length) (σ ++ [.dct b []])
instance sim_dnK : SimE Z E tDNewK (aDNew false) := ⟨fun r er h k _ p n => k.layDK r n h⟩
instance sim_dnT : SimE Z E tDNewT (aDNew true) := ⟨fun r er h k _ p n => k.layDT r n h⟩
/-- {k: v, ..}: a cell -/
def aPairs : List (AE × AE) → Ev → Sto → (List (W × W) → Sto → Prop) → XQ → Prop
  | [], _, σ, Q, _ => Q [] σ
  | (fk, fv) :: r, e, σ, Q, X => fk e σ (fun x σ1 => fv e σ1 (fun y σ2 => aPairs r e σ2 (fun ps σ3 => Q ((x, y) :: ps) σ3) X) X) X
class SimPs (Z : Zx) (E : L2.St → XK) (ts : List (TE × TE)) (fs : outParam (List (AE × AE))) : Prop where
  sim : ∀ {ρ : List Addr} {σ : Sto} {H : Hp} {s : L2.St} {e : Ev} {Qa : List (W × W) → Sto → Prop} {Ea : XQ} {Q : List (V × V) → Hp → Prop}, Rel Z.K Z.T ρ σ H → ER Z.K ρ H s e → aPairs fs e σ Qa Ea →
    (∀ ρ' σ' H' ps qs, Go Z.T ρ H ρ' H' → Rel Z.K Z.T ρ' σ' H' → Paired (fun p q => WR Z.K ρ' H' p.1 q.1 ∧ WR Z.K ρ' H' p.2 q.2) ps qs → Qa qs σ' → Q ps H') → KX Z ρ H Ea (E s) → tPairs ts s H Q
instance sim_ps0 : SimPs Z E [] [] := ⟨fun r er h k _ => k _ _ _ _ _ .refl r .nil h⟩
instance sim_ps1 {ts : List (TE × TE)} {fs : List (AE × AE)} [ia : SimE Z E ta fa] [ib : SimE Z E tb fb] [ic : SimPs Z E ts fs] : SimPs Z E ((ta, tb) :: ts) ((fa, fb) :: fs) := ⟨fun r er h k kx =>
  ia.sim r er h (fun _ _ _ _ _ g1 r1 v1 h1 => ib.sim r1 (g1.er r er) h1 (fun _ _ _ _ _ g2 r2 v2 h2 => ic.sim r2 ((g1.trans g2).er r er) h2 (fun _ _ _ _ _ g3 r3 v3 h3 =>
    k _ _ _ _ _ ((g1.trans g2).trans g3) r3 (.cons ⟨(g2.trans g3).wr r1 v1, g3.wr r2 v2⟩ v3) h3) (kx.go (g1.trans g2))) (kx.go g1)) kx⟩
noncomputable def mergeD (acc : List (PyData × W)) : List (W × W) → Option (List (PyData × W))
  | [] => some acc
  | (.d k, v) :: r => if isK k = true then mergeD (dput acc k v) r else none
  | _ :: _ => none
noncomputable def aDisp (fs : List (AE × AE)) : AE := fun e σ Q X => aPairs fs e (σ ++ [.dct false []]) (fun ps σ2 => σ2[σ.length]? = some (.dct false []) ∧ ps.length ≤ 15 ∧ ∃ kvs, mergeD [] ps = some kvs ∧ Q (.ref σ.length) (σ2.set σ.length (.dct false kvs))) X
theorem merge_sim {ρ : List Addr} {H : Hp} : ∀ {ps : List (V × V)} {qs : List (W × W)} {acc kvs : List (PyData × W)} {hk : List (Key × V)}, Paired (fun p q => WR K ρ H p.1 q.1 ∧ WR K ρ H p.2 q.2) ps qs → PRs K ρ H (hk.map fun p => (kD p.1, p.2)) acc → mergeD acc qs = some kvs →
    ∃ l : List (Key × V), ps = l.map (fun kv => (kV kv.1, kv.2)) ∧ PRs K ρ H ((mergeK hk l).map fun p => (kD p.1, p.2)) kvs
  | _, _, acc, kvs, hk, .nil, h, e => by
    cases e
    exact ⟨[], rfl, h⟩
  | p :: ps, (.d kd, w) :: qs, acc, kvs, hk, .cons h t, h2, e => by
    obtain ⟨x, y⟩ := p
    unfold mergeD at e
    by_cases hkd : isK kd = true
    · rw [if_pos hkd] at e
      obtain ⟨kk, rfl⟩ := isK_of hkd
      obtain ⟨l, e1, e2⟩ := merge_sim (hk := putK hk kk y) t (prs_put (fun _ _ => kD_inj) kk h.2 h2) e
      refine ⟨(kk, y) :: l, ?_, e2⟩
      have : x = kV kk := rp_key h.1
      rw [this, e1]
      rfl
    · rw [if_neg hkd] at e
      cases e
  | _, (.ref _, _) :: _, _, _, _, .cons _ _, _, e => by cases e
  | _, (.scr _, _) :: _, _, _, _, .cons _ _, _, e => by cases e
instance sim_disp {ts : List (TE × TE)} {fs : List (AE × AE)} [ip : SimPs Z E ts fs] : SimE Z E (tDisp ts) (aDisp fs) := ⟨fun {ρ σ H s e Qa Ea Q} r er h k kx p n => by
  have gc : Go Z.T ρ H (ρ ++ [p]) (upd H p (.dK [])) := Go.cell n
  have rc : Rel Z.K Z.T (ρ ++ [p]) (σ ++ [.dct false []]) (upd H p (.dK [])) := r.cell' n ⟨[], upd_same, .nil⟩
  have hp : (ρ ++ [p])[σ.length]? = some p := by rw [r.len, List.getElem?_append_right (Nat.le_refl _), Nat.sub_self]; rfl
  refine ip.sim rc (gc.er r er) h (fun ρ' σ' H' ps qs g' r' pr q => ?_) (kx.go gc)
  obtain ⟨hc, hl, kvs, hm, q⟩ := q
  have hp' := g'.at_ hp
  obtain ⟨hk, e1, e2⟩ := r'.cell _ p _ hp' hc
  have e0 : hk = [] := by
    cases hk with
    | nil => rfl
    | cons a b => cases e2
  subst e0
  obtain ⟨l, rfl, e3⟩ := merge_sim (hk := []) pr .nil hm
  have gp : Go Z.T ρ' H' ρ' (upd H' p (.dK (mergeK [] l))) := Go.put (List.mem_of_getElem? hp') e1
  refine ⟨e1, l, rfl, ?_, k.r ((gc.trans g').trans gp) (r'.put (c := .dct false kvs) hp' ⟨_, upd_same, gp.prs r' e3⟩) hp' q⟩
  have := Paired.len pr
  rw [List.length_map] at this
  omega⟩
/-! ### d[k] = v -/
noncomputable def aDPut (fd fk fv : AE) : AS := fun k e σ => fv e σ (fun w σ1 => fd e σ1 (fun d σ2 => fk e σ2 (fun y σ3 => ∃ i t kvs kd, d = .ref i ∧ y = .d kd ∧ σ3[i]? = some (.dct t kvs) ∧ (if t = true then isKT kd = true else isK kd = true) ∧ kvs.length < sizeLine ∧
  k.nx e (σ3.set i (.dct t (dput kvs kd w)))) (k.ex e)) (k.ex e)) (k.ex e)
instance sim_dput [ia : SimE Z E ta fa] [ib : SimE Z E tb fb] [ic : SimE Z E tc fc] : SimS Z E (sDPut ta tb tc) (aDPut fa fb fc) := ⟨fun {ρ σ H s e k D} r er h kn kr kx =>
  ic.sim r er h (fun _ _ _ vv ww g1 r1 v1 h1 => ia.sim r1 (g1.er r er) h1 (fun _ _ _ _ _ g2 r2 v2 h2 => ib.sim r2 ((g1.trans g2).er r er) h2 (fun ρ3 σ3 H3 v w g3 r3 v3 h3 => by
    obtain ⟨i, t, kvs, kd, rfl, rfl, hc, hk, hl, q⟩ := h3
    obtain ⟨a, ha, rfl⟩ := g3.wr r2 v2
    have v1' := (g2.trans g3).wr r1 v1
    cases t with
    | true =>
      rw [if_pos rfl] at hk
      obtain ⟨ks, rfl⟩ := isKT_of hk
      obtain ⟨b, rfl, hb⟩ := rp_keyT v3
      obtain ⟨hkv, e1, e2⟩ := r3.cell i a _ ha hc
      refine ⟨a, _, rfl, DPut.t e1 hb (by rw [prs_len e2]; exact hl), ?_⟩
      have gp : Go Z.T ρ3 H3 ρ3 (upd H3 a (.dT (putK hkv ks vv))) := Go.put (List.mem_of_getElem? ha) e1
      exact kn _ _ _ _ _ (((g1.trans g2).trans g3).trans gp) (r3.put (c := .dct true (dput kvs (kT ks) ww)) ha ⟨_, upd_same, gp.prs r3 (prs_put (fun _ _ => kT_inj) ks v1' e2)⟩) ((((g1.trans g2).trans g3).trans gp).er r er) q
    | false =>
      rw [if_neg (by decide)] at hk
      obtain ⟨ks, rfl⟩ := isK_of hk
      have ev := rp_key v3
      subst ev
      obtain ⟨hkv, e1, e2⟩ := r3.cell i a _ ha hc
      refine ⟨a, _, rfl, DPut.k e1 (by rw [prs_len e2]; exact hl), ?_⟩
      have gp : Go Z.T ρ3 H3 ρ3 (upd H3 a (.dK (putK hkv ks vv))) := Go.put (List.mem_of_getElem? ha) e1
      exact kn _ _ _ _ _ (((g1.trans g2).trans g3).trans gp) (r3.put (c := .dct false (dput kvs (kD ks) ww)) ha ⟨_, upd_same, gp.prs r3 (prs_put (fun _ _ => kD_inj) ks v1' e2)⟩) ((((g1.trans g2).trans g3).trans gp).er r er) q) ((kx.go (g1.trans g2)).at_ r2 ((g1.trans g2).er r er))) ((kx.go g1).at_ r1 (g1.er r er))) (kx.at_ r er)⟩
end
end Aw

/-! AwD: methods; a def as an abstract function; the feed. -/
namespace Aw
open PySem PySem.Spec PyProof.Rows L2 Mw
section
variable {X : Cx} {K : PySem.W.Frag} {k : Nat} {Z : Zx} {E : L2.St → XK} {ta tb tc : TE} {fa fb fc : AE} {t : TA} {fr : AA}
def tyW (T : String) (σ : Sto) : W → Prop
  | .d (.str _) => T = "str"
  | .d (.list _) => T = "list"
  | .ref i => match σ[i]? with
    | some (.lst _) => T = "list"
    | some (.dct _ _) => T = "dict"
    | _ => False
  | _ => False
def aBM (T : String) (ra : W → List W → Sto → QK → Prop) (fa : AE) (fr : AA) : AE := fun e σ Q X => fa e σ (fun w σ1 => tyW T σ1 w ∧ fr e σ1 (fun ws σ2 => ra w ws σ2 Q) X) X
theorem tyW_sim {ρ : List Addr} {σ : Sto} {H : Hp} {x : V} {T : String} (rl : Rel Z.K Z.T ρ σ H) : ∀ {w : W}, WR Z.K ρ H x w → tyW T σ w → tyV Z.K T x H
  | .d (.str z), h, q => by rw [h.str]; exact q
  | .d (.list ds), h, q => by
    have h : Rp Z.K ρ H x (.list ds) := h
    cases h with
    | lst h1 h2 => exact .inl ⟨q, _, .inl h1.2⟩
  | .ref i, h, q => by
    obtain ⟨a, ha, rfl⟩ := h
    cases hc : σ[i]? with
    | none => simp [tyW, hc] at q
    | some c =>
      have cr := rl.cell i a c ha hc
      cases c with
      | lst ws =>
        obtain ⟨xs, e1, _⟩ := cr
        exact .inl ⟨by simpa [tyW, hc] using q, xs, .inl (.inl e1)⟩
      | dct b kvs =>
        have qT : T = "dict" := by simpa [tyW, hc] using q
        cases b with
        | false =>
          obtain ⟨hk, e1, _⟩ := cr
          exact .inr (.inr (.inl ⟨qT, .inl ⟨hk, e1⟩⟩))
        | true =>
          obtain ⟨hk, e1, _⟩ := cr
          exact .inr (.inr (.inl ⟨qT, .inr ⟨hk, e1⟩⟩))
      | lck b kvs => simp [tyW, hc] at q
  | .d .none, _, q => q.elim
  | .d (.bool _), _, q => q.elim
  | .d (.int _), _, q => q.elim
  | .d (.tuple _), _, q => q.elim
  | .d (.dict _), _, q => q.elim
  | .scr _, _, q => q.elim
instance sim_bm {T : String} {r : V → List V → Hp → VK → Prop} {ra : W → List W → Sto → QK → Prop} [im : SimM Z r ra] [ia : SimE Z E ta fa] [ir : SimA Z E t fr] : SimE Z E (tBM Z.K T r ta t) (aBM T ra fa fr) := ⟨fun r0 er h kq kx =>
  ia.sim r0 er h (fun _ _ _ _ _ g1 r1 v1 h1 => ⟨tyW_sim r1 v1 h1.1, ir.sim r1 (g1.er r0 er) h1.2 (fun _ _ _ _ _ g2 r2 v2 h2 => im.sim r2 (g2.wr r1 v1) v2 h2 (kq.go (g1.trans g2))) (kx.go g1)⟩) kx⟩
def appendW : W → List W → Sto → QK → Prop := fun a ws σ Q => ∃ i ys y, a = .ref i ∧ ws = [y] ∧ σ[i]? = some (.lst ys) ∧ ys.length < sizeLine ∧ Q (.d .none) (σ.set i (.lst (ys ++ [y])))
instance sim_append : SimM Z rAppend appendW := ⟨fun {ρ σ H x a xs ws Qa Q} rl va vs q kq => by
  obtain ⟨i, ys, y, rfl, rfl, hc, hl, q⟩ := q
  obtain ⟨ad, ha, rfl⟩ := va
  obtain ⟨v, rfl, vy⟩ := wrs1 vs
  obtain ⟨zs, e1, e2⟩ := rl.cell i ad _ ha hc
  have gp : Go Z.T ρ H ρ (upd H ad (.lst (zs ++ [v]))) := Go.put (List.mem_of_getElem? ha) e1
  exact ⟨ad, zs, v, rfl, rfl, e1, by rw [Paired.len e2]; exact hl, kq.d gp (rl.put (c := .lst (ys ++ [y])) ha ⟨_, upd_same, gp.wrs rl (paired_app e2 (.cons vy .nil))⟩) Rp.non q⟩⟩
def rJoinU (K : PySem.W.Frag) : V → List V → Hp → VK → Prop := fun x xs H Q => ∃ a p, ∃ ys : List Str, x = .str a ∧ xs = [.ref p] ∧ (SqL K H p (ys.map V.str) ∨ SqT K H p (ys.map V.str)) ∧
    (ys.map (·.length)).sum + ys.length * a.length ≤ 16777216 ∧ Q (.str (PySem.Txt.join a ys)) H
theorem mt_joinU (hK : X.K = K) : MtR X "str.join" (rJoinU K) := by subst hK; exact mt_join
def joinW : W → List W → Sto → QK → Prop := fun a ws σ Q => ∃ (z : Str) (w : W) (ys : List Str), a = .d (.str z) ∧ ws = [w] ∧ seqOf σ w = some (ys.map .str) ∧ (ys.map (·.length)).sum + ys.length * z.length ≤ 16777216 ∧ Q (.d (.str (PySem.Txt.join z ys))) σ
theorem rpAll_strs {ρ : List Addr} {H : Hp} : ∀ {ns : List Str} {xs : List V}, RpAll K ρ H xs (ns.map PyData.str) → xs = ns.map V.str
  | [], _, h => by cases h; rfl
  | n :: ns, _, h => by
    cases h with
    | cons h t =>
      cases h
      rw [rpAll_strs t]
      rfl
instance sim_join : SimM Z (rJoinU Z.K) joinW := ⟨fun {ρ σ H x a xs ws Qa Q} rl va vs q kq => by
  obtain ⟨z, w, ys, rfl, rfl, h1, h2, q⟩ := q
  obtain ⟨v, rfl, vw⟩ := wrs1 vs
  unfold seqOf at h1
  cases h4 : dat σ w with
  | none => rw [h4] at h1; cases h1
  | some dd =>
    rw [h4] at h1
    have tb := dat_tp rl vw h4
    cases dd <;> first | (cases h1; done) | skip
    · rename_i l
      have e : l = ys.map PyData.str := Option.some.inj h1
      subst e
      obtain ⟨ad, us, rfl, hr, hp⟩ := tb
      have := rpAll_strs hp
      subst this
      exact ⟨z, ad, ys, va.str, rfl, .inl (.inl hr), h2, kq.d .refl rl (Rp.str _) q⟩
    · rename_i l
      have e : l = ys.map PyData.str := Option.some.inj h1
      subst e
      obtain ⟨ad, us, rfl, hr, hp⟩ := tb.tup
      have := rpAll_strs hp
      subst this
      exact ⟨z, ad, ys, va.str, rfl, .inr (.inl (.inl hr)), h2, kq.d .refl rl (Rp.str _) q⟩⟩
/-! ### defs -/
variable {P : Program} {w : World} {mg : Str → Option Value} {base : Heap} {x : Str} {st : Stmt} {f c : Addr} {fd : FuncData} {N ps : List Str} {body : AS}
theorem spA_len {m : Nat} {mf : AF} {vs : List V} {H : Hp} {Q : VK} {F : XK} (h : spA Z m mf vs H Q F) : vs.length = m := h.1
theorem body_sim {ts : TS} {F : XK} {vs : List V} {H : Hp} {Q : VK} {n : Nat} [is : SimS Z (fun _ => F) ts body] (h : spA Z n (aFn N.length body) vs H Q F) : ts { nx := fun _ H' => Q .non H', rt := Q } (L2.start N vs) H := by
  obtain ⟨hl, ρ, σ, ws, Qa, Ea, r, v, q, kq, kx⟩ := h
  have e : ER Z.K ρ H (L2.start N vs) (aStart N.length ws) := by
    unfold L2.start aStart
    rw [Paired.len v]
    exact paired_app (er_some v) (er_none _)
  exact is.sim r e q (fun _ _ _ _ _ g r' _ q' => kq.d g r' Rp.non q') kq (fun _ _ _ _ _ _ _ _ g r' _ x q' => kx _ _ _ _ _ _ g r' x q')
/-- a def of the text as an abstract function -/
theorem fnA (D : Def Z.K x st f c fd) (S : FnScope N ps (defScope st))
    (h : ∀ (A : Around) (outer : List Env) (s : Shared) (H : Hp) (F : XK), Room k (A.deeper (envOfC x (defScope st) s.heap.objs.size f (.ref c))) → ∃ ts, PSs (Bx P w Z.K mg base N x st f c A outer s H F) (defBody st) ts ∧ SimS Z (fun _ => F) ts body) :
    FnOk P w Z.K mg base CX0 (k + 1) f fd ps (spA Z ps.length (aFn N.length body)) :=
  D.ok S (fun vs H Q E h => h.1) fun A outer s H vs Q E hr q => by
    obtain ⟨ts, h1, h2⟩ := h A outer s H E hr
    exact ⟨ts, h1, body_sim q⟩
theorem fnG (D : Def Z.K x st f c fd) (S : FnScope N ps (defScope st))
    (h : ∀ (A : Around) (outer : List Env) (s : Shared) (H : Hp) (F : XK), Room k (A.deeper (envOfC x (defScope st) s.heap.objs.size f (.ref c))) → A.guards = some [] → ∃ ts, PSs (Bx P w Z.K mg base N x st f c A outer s H F) (defBody st) ts ∧ SimS Z (fun _ => F) ts body) :
    FnG P w Z.K mg base (k + 1) f fd ps (spA Z ps.length (aFn N.length body)) :=
  D.okG S (fun vs H Q E h => h.1) fun A outer s H vs Q E hr hg q => by
    obtain ⟨ts, h1, h2⟩ := h A outer s H E hr hg
    exact ⟨ts, h1, body_sim q⟩
end
end Aw

/-! AwE: the rules as the generator writes them. -/
namespace Aw
open PySem PySem.Spec PyProof.Rows L2 Mw
/-- a def that may be called -/
structure CalF (P : Program) (w : World) (Z : Zx) (mg : Str → Option Value) (base : Heap) (x : Str) (k : Nat) (ps : List Str) (mf : AF) : Prop where
  ex : ∃ (f : Addr) (fd : FuncData), PySem.W.keepIn Z.K (.ref f) = true ∧ Binds Z.K fd ps [] ∧ mg x = some (.ref f) ∧ FnOk P w Z.K mg base CX0 k f fd ps (spA Z ps.length mf)
structure CalG (P : Program) (w : World) (Z : Zx) (mg : Str → Option Value) (base : Heap) (x : Str) (k : Nat) (ps : List Str) (mf : AF) : Prop where
  ex : ∃ (f : Addr) (fd : FuncData), PySem.W.keepIn Z.K (.ref f) = true ∧ Binds Z.K fd ps [] ∧ mg x = some (.ref f) ∧ FnG P w Z.K mg base k f fd ps (spA Z ps.length mf)
section
variable {P : Program} {w : World} {Z : Zx} {mg : Str → Option Value} {base : Heap} {x : Str} {k j : Nat} {ps : List Str} {mf mf' : AF}
theorem CalF.shed (c : CalF P w Z mg base x k ps mf) (h : ∀ ws σ Q X, mf' ws σ Q X → mf ws σ (fun w σ' => Told σ.length σ σ' w Q) X) : CalF P w Z mg base x k ps mf' := by
  obtain ⟨f, fd, h1, h2, h3, h4⟩ := c.ex
  exact ⟨f, fd, h1, h2, h3, FnOk.shed h4 h⟩
theorem CalF.as (c : CalF P w Z mg base x k ps mf) (h : ∀ ws σ Q X, mf' ws σ Q X → mf ws σ Q X) : CalF P w Z mg base x k ps mf' := by
  obtain ⟨f, fd, h1, h2, h3, h4⟩ := c.ex
  exact ⟨f, fd, h1, h2, h3, FnOk.as h4 h⟩
theorem CalG.shed (c : CalG P w Z mg base x k ps mf) (h : ∀ ws σ Q X, mf' ws σ Q X → mf ws σ (fun w σ' => Told σ.length σ σ' w Q) X) : CalG P w Z mg base x k ps mf' := by
  obtain ⟨f, fd, h1, h2, h3, h4⟩ := c.ex
  exact ⟨f, fd, h1, h2, h3, ⟨fun vs H Q E q => h4.len vs H Q E (spA_shed h _ _ _ _ q), fun A outer s H args us vs Q E hr hg he hb hv hs => h4.run A outer s H args us vs Q E hr hg he hb hv (spA_shed h _ _ _ _ hs)⟩⟩
theorem CalF.mono (c : CalF P w Z mg base x k ps mf) (h : k ≤ j) : CalF P w Z mg base x j ps mf := by
  obtain ⟨f, fd, h1, h2, h3, h4⟩ := c.ex
  exact ⟨f, fd, h1, h2, h3, h4.mono h⟩
end
section
variable {X : Cx} {P : Program} {w : World} {Z : Zx} {K : PySem.W.Frag} {mg : Str → Option Value} {base : Heap} {x : Str} {k n : Nat} {ps : List Str} {mf : AF} {p pos apos : Pos} {a b e : Expr} {es : List Expr} {ta tb te td : TE} {t : TA} {F : XK}
theorem pe_callA (c : CalF P w Z mg base x k ps mf) (e1 : X.prog = P) (e2 : X.w = w) (e3 : X.K = Z.K) (e4 : X.mg = mg) (e5 : X.base = base) (hn : ps.length = n) (hr : Room k X.A) (hg : Gl X x) (ha : PA X (e :: es) t)
    (hdb : (x == ("__debug__" : Str)) = false := by decide) (he : starEach (e :: es) X.env = (false, eval e X.env) :: starEach es X.env := by rfl) (hpl : (backTo pos (starEach es X.env)).any (·.1) = false := by rfl) :
    PE X (.Call (.Name x p) (e :: es) [] pos) (tCall (spA Z n mf) [] F t) := by
  obtain ⟨f, fd, h1, h2, h3, h4⟩ := c.ex
  subst e1 e2 e4 e5 hn
  rw [← e3] at h1 h2 h4
  exact pe_call h4 hr hg h3 h1 h2 .nil pass0 ha hdb he hpl
theorem pe_callGA (c : CalG P w Z mg base x k ps mf) (e1 : X.prog = P) (e2 : X.w = w) (e3 : X.K = Z.K) (e4 : X.mg = mg) (e5 : X.base = base) (hn : ps.length = n) (hr : Room k X.A) (gu : X.A.guards = some []) (hg : Gl X x) (ha : PA X (e :: es) t)
    (hdb : (x == ("__debug__" : Str)) = false := by decide) (he : starEach (e :: es) X.env = (false, eval e X.env) :: starEach es X.env := by rfl) (hpl : (backTo pos (starEach es X.env)).any (·.1) = false := by rfl) :
    PE X (.Call (.Name x p) (e :: es) [] pos) (tCall (spA Z n mf) [] F t) := by
  obtain ⟨f, fd, h1, h2, h3, h4⟩ := c.ex
  subst e1 e2 e4 e5 hn
  rw [← e3] at h1 h2 h4
  exact pe_callG h4 hr gu hg h3 h1 h2 .nil pass0 ha hdb he hpl
theorem pe_ixA (hK : X.K = K) (hr : Room k X.A) (ha : PE X a ta) (hb : PE X b tb) (hs : PlainIx b) : PE X (.Subscript a b pos) (tOp (rIxU K) ta tb) := pe_ix (ix_U hK hr) ha hb hs
theorem pe_lstC (h : PA X es t) : PE X (.List es pos) (tLstC t) := pe_lst h
theorem pe_dputA (hr : Room k X.A) : X.A.units + 1 < cLine := Room.u1 hr
theorem pe_lcA {elt tg iter : Expr} {ifs : List Expr} {scope : Scope} {own : List (Str × Nat)} {pos : Pos} {wi : TI} {g : TG} {tt : TT} {te : TE} {vs : List Nat} (hv : own.map (·.2) = vs) (hc : X.calm = true) (hN : X.N.Nodup) (hi : PI X tg iter wi) (ok : BlkOk X.N X.env.scope scope own)
    (hg : ∀ (s : Shared) (H : Hp) (C : Addr) (cl : List (Str × Addr)) (fp : List Addr), PG (X.blk s H scope (compEnvC scope cl C X.env) fp) tg g) (ht : ∀ (s : Shared) (H : Hp) (C : Addr) (cl : List (Str × Addr)) (fp : List Addr), PTs (X.blk s H scope (compEnvC scope cl C X.env) fp) ifs tt)
    (he : ∀ (s : Shared) (H : Hp) (C : Addr) (cl : List (Str × Addr)) (fp : List Addr), PE (X.blk s H scope (compEnvC scope cl C X.env) fp) elt te) (hs : ∀ x, foldedSetIterable iter X.env x = pure x := by intro _; rfl) :
    PE X (.ListComp elt [⟨tg, iter, ifs, 0⟩] scope pos) (tLc wi g tt te vs) := hv ▸ pe_lc hc hN hi ok hg ht he hs
theorem pe_lcCA {elt tg iter : Expr} {ifs : List Expr} {scope : Scope} {own : List (Str × Nat)} {pos : Pos} {wi : TI} {g : TG} {tt : TT} {te : TE} {vs : List Nat} (hv : own.map (·.2) = vs) (hc : X.calm = true) (hN : X.N.Nodup) (hi : PI X tg iter wi) (ok : BlkOk X.N X.env.scope scope own)
    (hg : ∀ (s : Shared) (H : Hp) (C : Addr) (cl : List (Str × Addr)) (fp : List Addr), PG (X.blk s H scope (compEnvC scope cl C X.env) fp) tg g) (ht : ∀ (s : Shared) (H : Hp) (C : Addr) (cl : List (Str × Addr)) (fp : List Addr), PTs (X.blk s H scope (compEnvC scope cl C X.env) fp) ifs tt)
    (he : ∀ (s : Shared) (H : Hp) (C : Addr) (cl : List (Str × Addr)) (fp : List Addr), PE (X.blk s H scope (compEnvC scope cl C X.env) fp) elt te) (hs : ∀ x, foldedSetIterable iter X.env x = pure x := by intro _; rfl) :
    PE X (.ListComp elt [⟨tg, iter, ifs, 0⟩] scope pos) (tLcC wi g tt te vs) := hv ▸ pe_lc hc hN hi ok hg ht he hs
theorem ps_setLcA {elt tg iter : Expr} {ifs : List Expr} {scope : Scope} {own : List (Str × Nat)} {pos : Pos} {wi : TI} {g : TG} {tt : TT} {te : TE} {vs : List Nat} (hv : own.map (·.2) = vs) {i : Nat} {y : Str} {py spos : Pos} (hc : X.calm = true) (hN : X.N.Nodup) (hy : X.N[i]? = some y) (hyl : X.env.scope.names.lookup y = some .local)
    (hsw : swapsWith (.ListComp elt [⟨tg, iter, ifs, 0⟩] scope pos) (some (.Name y py)) spos.line X.env = pure true) (hi : PI X tg iter wi) (ok : BlkOk X.N X.env.scope scope own)
    (hg : ∀ (s : Shared) (H : Hp) (C : Addr) (cl : List (Str × Addr)) (fp : List Addr), PG (X.blk s H scope (compEnvC scope cl C X.env) fp) tg g) (ht : ∀ (s : Shared) (H : Hp) (C : Addr) (cl : List (Str × Addr)) (fp : List Addr), PTs (X.blk s H scope (compEnvC scope cl C X.env) fp) ifs tt)
    (he : ∀ (s : Shared) (H : Hp) (C : Addr) (cl : List (Str × Addr)) (fp : List Addr), PE (X.blk s H scope (compEnvC scope cl C X.env) fp) elt te) (hs : ∀ x, foldedSetIterable iter X.env x = pure x := by intro _; rfl) :
    PS X (.Assign [.Name y py] (.ListComp elt [⟨tg, iter, ifs, 0⟩] scope pos) spos) (tAsg (tLc wi g tt te vs) (gName i)) := hv ▸ ps_setLc hc hN hy hyl hsw hi ok hg ht he hs
theorem ps_setLcCA {elt tg iter : Expr} {ifs : List Expr} {scope : Scope} {own : List (Str × Nat)} {pos : Pos} {wi : TI} {g : TG} {tt : TT} {te : TE} {vs : List Nat} (hv : own.map (·.2) = vs) {i : Nat} {y : Str} {py spos : Pos} (hc : X.calm = true) (hN : X.N.Nodup) (hy : X.N[i]? = some y) (hyl : X.env.scope.names.lookup y = some .local)
    (hsw : swapsWith (.ListComp elt [⟨tg, iter, ifs, 0⟩] scope pos) (some (.Name y py)) spos.line X.env = pure true) (hi : PI X tg iter wi) (ok : BlkOk X.N X.env.scope scope own)
    (hg : ∀ (s : Shared) (H : Hp) (C : Addr) (cl : List (Str × Addr)) (fp : List Addr), PG (X.blk s H scope (compEnvC scope cl C X.env) fp) tg g) (ht : ∀ (s : Shared) (H : Hp) (C : Addr) (cl : List (Str × Addr)) (fp : List Addr), PTs (X.blk s H scope (compEnvC scope cl C X.env) fp) ifs tt)
    (he : ∀ (s : Shared) (H : Hp) (C : Addr) (cl : List (Str × Addr)) (fp : List Addr), PE (X.blk s H scope (compEnvC scope cl C X.env) fp) elt te) (hs : ∀ x, foldedSetIterable iter X.env x = pure x := by intro _; rfl) :
    PS X (.Assign [.Name y py] (.ListComp elt [⟨tg, iter, ifs, 0⟩] scope pos) spos) (tAsg (tLcC wi g tt te vs) (gName i)) := hv ▸ ps_setLc hc hN hy hyl hsw hi ok hg ht he hs
theorem pe_dcTA {kx vx tg iter : Expr} {ifs : List Expr} {scope : Scope} {own : List (Str × Nat)} {pos : Pos} {wi : TI} {g : TG} {tt : TT} {tk tv : TE} {vs : List Nat} (hv : own.map (·.2) = vs) (hu : X.A.units + 1 < cLine) (hc : X.calm = true) (hN : X.N.Nodup) (hi : PI X tg iter wi) (ok : BlkOk X.N X.env.scope scope own)
    (hg : ∀ (s : Shared) (H : Hp) (C : Addr) (cl : List (Str × Addr)) (fp : List Addr), PG (X.blk s H scope (compEnvC scope cl C X.env) fp) tg g) (ht : ∀ (s : Shared) (H : Hp) (C : Addr) (cl : List (Str × Addr)) (fp : List Addr), PTs (X.blk s H scope (compEnvC scope cl C X.env) fp) ifs tt)
    (hk : ∀ (s : Shared) (H : Hp) (C : Addr) (cl : List (Str × Addr)) (fp : List Addr), PE (X.blk s H scope (compEnvC scope cl C X.env) fp) kx tk) (hvv : ∀ (s : Shared) (H : Hp) (C : Addr) (cl : List (Str × Addr)) (fp : List Addr), PE (X.blk s H scope (compEnvC scope cl C X.env) fp) vx tv) (hs : ∀ x, foldedSetIterable iter X.env x = pure x := by intro _; rfl) :
    PE X (.DictComp kx vx [⟨tg, iter, ifs, 0⟩] scope pos) (tDcT wi g tt tk tv vs) := hv ▸ pe_dcT hu hc hN hi ok hg ht hk hvv hs
theorem pe_tupGA {c P : Addr} {elt tg iter : Expr} {ifs : List Expr} {scope : Scope} {own : List (Str × Nat)} {p pos gpos : Pos} {wi : TI} {g : TG} {tt : TT} {te : TE} {k : Nat} {vs : List Nat} (hv : own.map (·.2) = vs)
    (hr : Room k X.A) (hg : Gl X "tuple") (hm : X.mg "tuple" = none) (TB : GxR.TabB X.base X.mg c P) (hcode : X.env.code = .ref c) (hN : X.N.Nodup) (hi : PI X tg iter wi) (G : GParts X elt tg iter ifs scope own g tt te)
    (he : starEach [gG elt tg iter ifs scope gpos] X.env = (false, eval (gG elt tg iter ifs scope gpos) X.env) :: starEach [] X.env := by rfl) :
    PE X (.Call (.Name "tuple" p) [gG elt tg iter ifs scope gpos] [] pos) (tTupG P wi g tt te vs) := hv ▸ pe_tupG hr hg hm TB hcode hN hi G he
theorem pe_allGA {c P : Addr} {elt tg iter : Expr} {ifs : List Expr} {scope : Scope} {own : List (Str × Nat)} {p pos gpos : Pos} {wi : TI} {g : TG} {tt : TT} {te : TE} {k : Nat} {vs : List Nat} (hv : own.map (·.2) = vs)
    (hr : Room k X.A) (hg : Gl X "all") (hm : X.mg "all" = none) (TB : GxR.TabB X.base X.mg c P) (hcode : X.env.code = .ref c) (hN : X.N.Nodup) (hi : PI X tg iter wi) (G : GParts X elt tg iter ifs scope own g tt te)
    (he : starEach [gG elt tg iter ifs scope gpos] X.env = (false, eval (gG elt tg iter ifs scope gpos) X.env) :: starEach [] X.env := by rfl) :
    PE X (.Call (.Name "all" p) [gG elt tg iter ifs scope gpos] [] pos) (tAllG P wi g tt te vs) := hv ▸ pe_allG hr hg hm TB hcode hN hi G he
theorem pe_anyGA {c P : Addr} {elt tg iter : Expr} {ifs : List Expr} {scope : Scope} {own : List (Str × Nat)} {p pos gpos : Pos} {wi : TI} {g : TG} {tt : TT} {te : TE} {k : Nat} {vs : List Nat} (hv : own.map (·.2) = vs)
    (hr : Room k X.A) (hg : Gl X "any") (hm : X.mg "any" = none) (TB : GxR.TabB X.base X.mg c P) (hcode : X.env.code = .ref c) (hN : X.N.Nodup) (hi : PI X tg iter wi) (G : GParts X elt tg iter ifs scope own g tt te)
    (he : starEach [gG elt tg iter ifs scope gpos] X.env = (false, eval (gG elt tg iter ifs scope gpos) X.env) :: starEach [] X.env := by rfl) :
    PE X (.Call (.Name "any" p) [gG elt tg iter ifs scope gpos] [] pos) (tAnyG P wi g tt te vs) := hv ▸ pe_anyG hr hg hm TB hcode hN hi G he
theorem pe_bmA {o e : Expr} {es : List Expr} {to : TE} {t : TA} {name : Str} {apos cpos : Pos} {T id : String} {r : V → List V → Hp → VK → Prop} (hK : X.K = K) (pa : PlainAttrs T) (slot : Slot T name id) (hty : typeOf (.builtin id) = pure (.type "method_descriptor")) (hm : MtR X id r) (ho : PE X o to) (ha : PA X (e :: es) t)
    (hbase : attributeBase o name X.env (eval o X.env) = eval o X.env := by rfl)
    (hfew : ((backTo cpos (starEach (e :: es) X.env)).all (fun x => !x.1) && (backToKw cpos (keywordEach [] X.env)).all (fun x => x.1.isSome)
      && decide ((e :: es).length + ([] : List Keyword).length + (if ([] : List Keyword).isEmpty then 0 else 1) < 30)) = true := by rfl)
    (hline : (apos.endLine == cpos.line) = true := by rfl) (hs : starEach (e :: es) X.env = (false, eval e X.env) :: starEach es X.env := by rfl) (hplain : (backTo cpos (starEach es X.env)).any (·.1) = false := by rfl) :
    PE X (.Call (.Attribute o name apos) (e :: es) [] cpos) (tBM K T r to t) := by
  subst hK
  exact pe_bm pa slot hty hm ho ha hbase hfew hline hs hplain
theorem pg_tupA {es : List Expr} {k : Nat} {t : TGs} {n : Nat} (hK : X.K = K) (hc : X.calm = true) (h : PGs X es t) (hn : (assignEach es X.env).length = n := by rfl) (hst : (assignEach es X.env).findIdx? (·.1) = none := by rfl) : PG X (.Tuple es k pos) (gTup K n t) := by
  subst hK
  exact pg_tup hc h hn hst
theorem pe_isiA {n : String} {p1 p2 : Pos} (hK : X.K = K) (hg : Gl X "isinstance") (hm : X.mg "isinstance" = none) (he : PE X e te) (hg2 : Gl X (Str.ofString n)) (hm2 : X.mg (Str.ofString n) = none) (hv : bootBuiltins (Str.ofString n) = some (.type n))
    (hn : (Str.ofString n) ≠ "__name__") (hd : ((Str.ofString n) == ("__debug__" : Str)) = false)
    (h1 : starEach [e, .Name (Str.ofString n) p2] X.env = (false, eval e X.env) :: starEach [.Name (Str.ofString n) p2] X.env) (h2 : starEach [.Name (Str.ofString n) p2] X.env = (false, eval (.Name (Str.ofString n) p2) X.env) :: starEach [] X.env)
    (h3 : (backTo pos (starEach [.Name (Str.ofString n) p2] X.env)).any (·.1) = false) : PE X (.Call (.Name "isinstance" p) [e, .Name (Str.ofString n) p2] [] pos) (tIsi K n te) := by
  subst hK
  exact pe_callB call_isi hg hm boot_isinstance (pa_cons he (pa_cons (pe_bltn (v := .ty n) hg2 hm2 hv rfl hn hd) pa_nil h2) h1) (by decide) (by decide) h1 h3
end
end Aw

/-! AwF: more built-ins. -/
namespace Aw
open PySem PySem.Spec PyProof.Rows L2 Mw
section
variable {X : Cx} {K : PySem.W.Frag} {k : Nat} {Z : Zx} {E : L2.St → XK} {ta tb tc : TE} {fa fb fc : AE} {t : TA} {fr : AA}
/-! ### l[::s], s one or minus one -/
def aStp (fa fs : AE) : AE := fun e σ Q X => fa e σ (fun w σ1 => fs e σ1 (fun y σ2 => ∃ ds st, dat σ2 w = some (.list ds) ∧ y = .d (.int st) ∧ (st = 1 ∨ st = -1) ∧ Q (.d (.list (if st = 1 then ds else ds.reverse))) σ2) X) X
theorem rpAll_rev {ρ : List Addr} {H : Hp} : ∀ {xs : List V} {ds : List PyData}, RpAll K ρ H xs ds → RpAll K ρ H xs.reverse ds.reverse
  | _, _, .nil => .nil
  | _, _, .cons h t => by
    rw [List.reverse_cons, List.reverse_cons]
    exact rpAll_app (rpAll_rev t) (.cons h .nil)
theorem pe_stpA {e st : Expr} {te ts : TE} {p3 pos : Pos} (hK : X.K = K) (he : PE X e te) (hs : PE X st ts) : PE X (.Subscript e (.Slice none none (some st) p3) pos) (tStp K te ts) := by
  subst hK
  exact pe_stp he hs
instance sim_stp [ia : SimE Z E ta fa] [ib : SimE Z E tb fb] : SimE Z E (tStp Z.K ta tb) (aStp fa fb) := ⟨fun r er h kq kx =>
  ia.sim r er h (fun _ _ _ _ _ g1 r1 v1 h1 => ib.sim r1 (g1.er r er) h1 (fun _ _ _ _ _ g2 r2 v2 h2 => by
    obtain ⟨ds, st, hd, rfl, hs, q⟩ := h2
    obtain ⟨a, xs, rfl, hr, hp⟩ := dat_tp r2 (g2.wr r1 v1) hd
    refine ⟨st, v2.int, a, xs, st, rfl, rfl, hs, .inl hr, fun p n => ?_⟩
    by_cases e : st = 1
    · rw [if_pos e] at q ⊢
      exact (kq.go (g1.trans g2)).layL r2 n hp q
    · rw [if_neg e] at q ⊢
      exact (kq.go (g1.trans g2)).layL r2 n (rpAll_rev hp) q) (kx.go g1)) kx⟩
/-! ### list(d), the keys of d tuples -/
def rListK : List V → Hp → VK → Prop := fun xs H Q => ∃ d kvs, xs = [V.ref d] ∧ Rd H d (.dT kvs) ∧ ∀ p bs, H p = none → IsKeys H kvs bs → Q (.ref p) (upd H p (.lst (bs.map V.ref)))
theorem call_listK (hc : X.calm = true) : CallR X (.type "list") rListK := call_list_dT hc
def listKW : List W → Sto → QK → Prop := fun ws σ Q => ∃ i kvs, ws = [.ref i] ∧ σ[i]? = some (.dct true kvs) ∧ Q (.d (.list (keys kvs))) σ
theorem keys_rp {ρ : List Addr} {H : Hp} : ∀ {hk : List (List Key × V)} {kvs : List (PyData × W)} {bs : List Addr}, PRs K ρ H (hk.map fun p => (kT p.1, p.2)) kvs → IsKeys H hk bs → RpAll K ρ H (bs.map V.ref) (keys kvs)
  | [], _, _, h, .nil => by cases h; exact .nil
  | p :: hk, _, _, h, .cons hb t => by
    cases h with
    | @cons a b as cs h ht =>
      have e : b.1 = kT p.1 := h.1.symm
      show RpAll K ρ H (_ :: _) (b.1 :: keys cs)
      rw [e]
      refine .cons (.tup hb ?_) (keys_rp ht t)
      have : ∀ ks : List Key, RpAll K ρ H (ks.map kV) (ks.map kD) := fun ks => by
        induction ks with
        | nil => exact .nil
        | cons k ks ih =>
          cases k with
          | inl i => exact .cons (.int i) ih
          | inr i => exact .cons (.str i) ih
      exact this p.1
instance sim_listK : SimC Z rListK listKW := ⟨fun {ρ σ H xs ws Qa Q} rl v q kq => by
  obtain ⟨i, kvs, rfl, hc, q⟩ := q
  obtain ⟨x, rfl, v1⟩ := wrs1 v
  obtain ⟨a, ha, rfl⟩ := v1
  obtain ⟨hk, e1, e2⟩ := rl.cell i a _ ha hc
  exact ⟨a, hk, rfl, .inl e1, fun p bs n ik => kq.layL rl n (keys_rp e2 ik) q⟩⟩
end
end Aw

set_option maxHeartbeats 8000000
set_option synthInstance.maxHeartbeats 2000000
set_option synthInstance.maxSize 100000
/-! LwP: the world of the laws as abstract programs (generated). -/
namespace Lw
open PySem PySem.Spec PyProof.Rows L2 Mw Aw
noncomputable abbrev pFeed : AS := (aRet (aDisp [((aD (.str "cells")), (aCB listW (aCons (aSl (aVar 0) aNoP (aPart (aD (.int 63)))) aNil))), ((aD (.str "at")), (aD (.int 0))), ((aD (.str "left")), (aD (.int 0))), ((aD (.str "count")), (aD (.int 0)))]))
noncomputable abbrev pDraw : AS := (aSeq (aDPut (aVar 0) (aD (.str "count")) (aOp (ra2 addD) (aOp ixW (aVar 0) (aD (.str "count"))) (aD (.int 1))))
  (aSeq (aIfS (aTest (aOp (ra2 (ordF fGt)) (aOp ixW (aVar 0) (aD (.str "left"))) (aD (.int 0))))
    (aSeq (aAsg (aOp (ra2 modD) (aOp ixW (aVar 0) (aD (.str "left"))) (aVar 1)) (agN 2))
  (aSeq (aDPut (aVar 0) (aD (.str "left")) (aOp (ra2 fdivD) (aOp ixW (aVar 0) (aD (.str "left"))) (aVar 1)))
  (aRet (aVar 2))))
    aNext)
  (aSeq (aAsg (aOp ixW (aVar 0) (aD (.str "at"))) (agN 3))
  (aSeq (aDPut (aVar 0) (aD (.str "at")) (aOp (ra2 addD) (aVar 3) (aD (.int 1))))
  (aSeq (aAsg (aIf (aTest (aOp (ra2 (eqF true)) (aOp ixW (aVar 0) (aD (.str "cells"))) (aLst aNil))) (aOp ixW (aOp ixW (aVar 0) (aD (.str "cells"))) (aOp (ra2 modD) (aVar 3) (aCB lenW (aCons (aOp ixW (aVar 0) (aD (.str "cells"))) aNil)))) (aD (.int 3))) (agN 4))
  (aSeq (aIfS (aAnd (aTest (aOp (ra2 (ordF fGe)) (aVar 4) (aOp (ra2 powD) (aD (.int 10)) (aD (.int 18))))) (aTest (aOp (ra2 (ordF fLt)) (aVar 3) (aCB lenW (aCons (aOp ixW (aVar 0) (aD (.str "cells"))) aNil)))))
    (aSeq (aDPut (aVar 0) (aD (.str "left")) (aOp (ra2 fdivD) (aVar 4) (aVar 1)))
  (aRet (aOp (ra2 modD) (aVar 4) (aVar 1))))
    aNext)
  (aSeq (aAsg (aOp (ra2 modD) (aOp (ra2 addD) (aOp (ra2 addD) (aOp (ra2 modD) (aVar 4) (aD (.int 1000000007))) (aOp (ra2 mulD) (aD (.int 40503)) (aOp ixW (aVar 0) (aD (.str "count"))))) (aD (.int 17))) (aD (.int 2147483629))) (agN 5))
  (aSeq (aAsg (aOp (ra2 modD) (aOp (ra2 addD) (aOp (ra2 addD) (aOp (ra2 mulD) (aVar 5) (aVar 5)) (aOp (ra2 mulD) (aD (.int 15485863)) (aOp ixW (aVar 0) (aD (.str "count"))))) (aD (.int 1))) (aD (.int 2147483587))) (agN 5))
  (aRet (aOp (ra2 modD) (aOp (ra2 fdivD) (aOp (ra2 modD) (aOp (ra2 addD) (aOp (ra2 mulD) (aVar 5) (aVar 5)) (aOp (ra2 mulD) (aD (.int 7)) (aVar 5))) (aD (.int 2147483549))) (aD (.int 8))) (aVar 1)))))))))))
noncomputable abbrev pWords (fDraw : AF) : AS := (aSeq (aAsg (aD (.str "abcdefghijklmnopqrstuvwxyz")) (agN 2))
  (aSeq (aAsg (aCall fDraw 2 (aCons (aVar 0) (aCons (aD (.int 4)) aNil))) (agN 3))
  (aSeq (aIfS (aTest (aOp (ra2 (eqF false)) (aVar 3) (aD (.int 0))))
    (aSeq (aAsg (aOp ixW (aVar 2) (aCall fDraw 2 (aCons (aVar 0) (aCons (aD (.int 26)) aNil)))) (agN 4))
  (aRet (aStp (aLc (aR1 (aCons (aVar 1) aNil)) (agN 5) aYes (aOp (ra2 mulD) (aVar 4) (aOp (ra2 addD) (aVar 5) (aD (.int 1)))) [5]) (aOp (ra2 subD) (aD (.int 1)) (aOp (ra2 mulD) (aD (.int 2)) (aCall fDraw 2 (aCons (aVar 0) (aCons (aD (.int 2)) aNil))))))))
    aNext)
  (aSeq (aAsg (aBM "str" joinW (aD (.str "")) (aCons (aLc (aR1 (aCons (aCall fDraw 2 (aCons (aVar 0) (aCons (aD (.int 7)) aNil))) aNil)) (agN 5) aYes (aOp ixW (aVar 2) (aCall fDraw 2 (aCons (aVar 0) (aCons (aD (.int 26)) aNil)))) [5]) aNil)) (agN 6))
  (aSeq (aAsg (aCall fDraw 2 (aCons (aVar 0) (aCons (aOp (ra2 addD) (aCB lenW (aCons (aVar 6) aNil)) (aD (.int 1))) aNil))) (agN 7))
  (aSeq (aAsg (aCall fDraw 2 (aCons (aVar 0) (aCons (aD (.int 26)) aNil))) (agN 8))
  (aSeq (aAsg (aOp ixW (aLst (aCons (aD (.int 1)) (aCons (aD (.int 3)) (aCons (aD (.int 5)) (aCons (aD (.int 7)) (aCons (aD (.int 9)) (aCons (aD (.int 25)) aNil))))))) (aCall fDraw 2 (aCons (aVar 0) (aCons (aD (.int 6)) aNil)))) (agN 9))
  (aSeq (aAsg (aLstC aNil) (agN 10))
  (aSeq (aFor (aR1 (aCons (aVar 1) aNil)) (agN 5)
    (aSeq (aAsg (aOp (ra2 mulD) (aOp ixW (aVar 2) (aCall fDraw 2 (aCons (aVar 0) (aCons (aD (.int 26)) aNil)))) (aCall fDraw 2 (aCons (aVar 0) (aCons (aD (.int 2)) aNil)))) (agN 11))
  (aSeq (aAsg (aOp ixW (aVar 2) (aOp (ra2 modD) (aOp (ra2 addD) (aVar 8) (aOp (ra2 mulD) (aVar 5) (aVar 9))) (aD (.int 26)))) (agN 12))
  (aDrop (aBM "list" appendW (aVar 10) (aCons (aOp (ra2 addD) (aOp (ra2 addD) (aOp (ra2 addD) (aSl (aVar 6) aNoP (aPart (aVar 7))) (aVar 12)) (aSl (aVar 6) (aPart (aVar 7)) aNoP)) (aVar 11)) aNil))))))
  (aRet (aVar 10)))))))))))
noncomputable abbrev pDeed (fDraw : AF) : AS := (aSeq (aAsg (aD (.str "abcdefghijklmnopqrstuvwxyz ")) (agN 4))
  (aSeq (aAsg (aBM "str" joinW (aD (.str "")) (aCons (aLc (aR1 (aCons (aOp (ra2 addD) (aD (.int 1)) (aCall fDraw 2 (aCons (aVar 0) (aCons (aD (.int 5)) aNil)))) aNil)) (agN 6) aYes (aOp ixW (aVar 4) (aCall fDraw 2 (aCons (aVar 0) (aCons (aD (.int 27)) aNil)))) [6]) aNil)) (agN 5))
  (aSeq (aAsg (aCall fDraw 2 (aCons (aVar 0) (aCons (aD (.int 6)) aNil))) (agN 7))
  (aSeq (aAsg (aLc (aIt (aVar 3)) (agN 9) aYes (aOp ixW (aOp ixW (aOp ixW (aOp ixW (aVar 1) (aD (.str "changes"))) (aVar 9)) (aD (.int 3))) (aD (.int 0))) [9]) (agN 8))
  (aSeq (aAsg (aLc (aR1 (aCons (aCB lenW (aCons (aVar 3) aNil)) aNil)) (agN 6) (aTest (aOp (ra2 (eqF false)) (aOp ixW (aVar 8) (aVar 6)) (aD (.str "hang")))) (aOp ixW (aVar 3) (aVar 6)) [6]) (agN 10))
  (aSeq (aIfS (aAnd (aTest (aOp (ra2 (eqF false)) (aVar 7) (aD (.int 0)))) (aTest (aOp (ra2 (ordF fGt)) (aCB lenW (aCons (aVar 2) aNil)) (aD (.int 1)))))
    (aRet (aTup (aCons (aD (.str "join")) aNil)))
    aNext)
  (aSeq (aIfS (aAnd (aTest (aOp (ra2 (eqF false)) (aVar 7) (aD (.int 1)))) (aAnd (aTest (aOp (inW false) (aD (.str "put")) (aVar 8))) (aTest (aOp (ra2 (ordF fLt)) (aCB lenW (aCons (aOp ixW (aVar 1) (aD (.str "hangs"))) aNil)) (aD (.int 6))))))
    (aRet (aTup (aCons (aD (.str "hang")) (aCons (aD (.int 0)) (aCons (aD (.int 1)) (aCons (aOp ixW (aLst (aCons (aD (.str "shut")) (aCons (aD (.str "wide")) aNil))) (aCall fDraw 2 (aCons (aVar 0) (aCons (aD (.int 2)) aNil)))) (aCons (aVar 5) aNil)))))))
    aNext)
  (aSeq (aIfS (aAnd (aTest (aOp (ra2 (eqF false)) (aVar 7) (aD (.int 2)))) (aTest (aOp (ra2 (eqF true)) (aVar 10) (aLst aNil))))
    (aRet (aTup (aCons (aD (.str "answer")) (aCons (aOp ixW (aVar 10) (aCall fDraw 2 (aCons (aVar 0) (aCons (aCB lenW (aCons (aVar 10) aNil)) aNil)))) (aCons (aVar 5) aNil)))))
    aNext)
  (aRet (aTup (aCons (aD (.str "put")) (aCons (aD (.int 0)) (aCons (aVar 5) aNil)))))))))))))
noncomputable abbrev pStep (fDraw fDeed : AF) : AS := (aSeq (aAsg (aOp ixW (aVar 2) (aCall fDraw 2 (aCons (aVar 0) (aCons (aCB lenW (aCons (aVar 2) aNil)) aNil)))) (agN 3))
  (aSeq (aAsg (aCB srtW (aCons (aOp ixW (aVar 1) (aD (.str "changes"))) aNil)) (agN 4))
  (aSeq (aAsg (aIf (aTest (aOp (inW false) (aVar 3) (aOp ixW (aVar 1) (aD (.str "last"))))) (aLstC (aCons (aOp ixW (aOp ixW (aVar 1) (aD (.str "last"))) (aVar 3)) aNil)) (aLstC aNil)) (agN 5))
  (aSeq (aIfS (aAnd (aTest (aOp (ra2 (eqF true)) (aVar 4) (aLst aNil))) (aTest (aOp (ra2 (ordF fLt)) (aCall fDraw 2 (aCons (aVar 0) (aCons (aD (.int 5)) aNil))) (aD (.int 2)))))
    (aDrop (aBM "list" appendW (aVar 5) (aCons (aOp ixW (aVar 4) (aCall fDraw 2 (aCons (aVar 0) (aCons (aCB lenW (aCons (aVar 4) aNil)) aNil)))) aNil)))
    aNext)
  (aSeq (aAsg (aDNew true) (agN 6))
  (aSeq (aFor (aIt (aVar 5)) (agN 7)
    (aFor (aIt (aOp (ra2 addD) (aOp ixW (aOp ixW (aVar 1) (aD (.str "knows"))) (aVar 7)) (aLst (aCons (aVar 7) aNil)))) (agN 8)
    (aDPut (aVar 6) (aVar 8) (aD (.bool true)))))
  (aSeq (aAsg (aCB srtW (aCons (aVar 6) aNil)) (agN 9))
  (aSeq (aAsg (aDNew true) (agN 10))
  (aSeq (aFor (aIt (aVar 9)) (agN 8)
    (aFor (aIt (aOp ixW (aOp ixW (aVar 1) (aD (.str "knows"))) (aVar 8))) (agN 7)
    (aDPut (aVar 10) (aVar 7) (aD (.bool true)))))
  (aSeq (aAsg (aCB tupleW (aCons (aLc (aIt (aVar 9)) (agN 8) (aTest (aOp (inW true) (aVar 8) (aVar 10))) (aVar 8) [8]) aNil)) (agN 11))
  (aSeq (aAsg (aTup (aCons (aOp (ra2 addD) (aD (.int 1)) (aMaxD (aCons (aLc (aIt (aVar 9)) (agN 8) aYes (aOp ixW (aVar 8) (aD (.int 0))) [8]) aNil) (aCons (aD (.int 0)) aNil))) (aCons (aVar 3) aNil))) (agN 12))
  (aSeq (aAsg (aCall fDeed 4 (aCons (aVar 0) (aCons (aVar 1) (aCons (aVar 11) (aCons (aVar 9) aNil))))) (agN 13))
  (aSeq (aIfS (aTest (aOp (ra2 (eqF false)) (aOp ixW (aVar 13) (aD (.int 0))) (aD (.str "hang"))))
    (aDrop (aBM "list" appendW (aOp ixW (aVar 1) (aD (.str "hangs"))) (aCons (aVar 12) aNil)))
    aNext)
  (aSeq (aDPut (aOp ixW (aVar 1) (aD (.str "changes"))) (aVar 12) (aTup (aCons (aVar 12) (aCons (aOp ixW (aVar 2) (aCall fDraw 2 (aCons (aVar 0) (aCons (aCB lenW (aCons (aVar 2) aNil)) aNil)))) (aCons (aVar 11) (aCons (aVar 13) aNil))))))
  (aSeq (aDPut (aOp ixW (aVar 1) (aD (.str "knows"))) (aVar 12) (aVar 9))
  (aDPut (aOp ixW (aVar 1) (aD (.str "last"))) (aVar 3) (aVar 12)))))))))))))))))
noncomputable abbrev pWorld (fStep : AF) : AS := (aSeq (aAsg (aDisp [((aD (.str "changes")), (aDNew true)), ((aD (.str "knows")), (aDNew true)), ((aD (.str "last")), (aDNew false)), ((aD (.str "hangs")), (aLstC aNil))]) (agN 3))
  (aSeq (aFor (aR1 (aCons (aVar 2) aNil)) (agN 4)
    (aDrop (aCall fStep 3 (aCons (aVar 0) (aCons (aVar 3) (aCons (aVar 1) aNil))))))
  (aRet (aVar 3))))
noncomputable abbrev pLedger : AS := (aRet (aCB tupleW (aCons (aLc (aIt (aCB srtW (aCons (aOp ixW (aVar 0) (aD (.str "changes"))) aNil))) (agN 2) (aTest (aOp (inW false) (aVar 2) (aVar 1))) (aOp ixW (aOp ixW (aVar 0) (aD (.str "changes"))) (aVar 2)) [2]) aNil)))
end Lw

/-! AwR: running abstract programs, step by step from the head. -/
namespace Aw
open PySem PySem.Spec PyProof.Rows L2 Mw
def tstB (B : Bool → Sto → Prop) (x : W) (σ : Sto) : Prop := ∃ b, x = .d (.bool b) ∧ B b σ
def purL (P : List PyData → Prop) (ws : List W) : Prop := ∃ ds, pures ws = some ds ∧ ds.length ≤ sizeLine ∧ P ds
def pntI (O : Option Int → Sto → Prop) (w : W) (σ : Sto) : Prop := ∃ i, w = .d (.int i) ∧ O (some i) σ
def rngI (S : Int → Prop) (ws : List W) : Prop := ∃ j : Int, ws = [.d (.int j)] ∧ -(2 ^ 62) ≤ j ∧ j < 2 ^ 62 ∧ S j
noncomputable def putD (S : Sto → Prop) (w d y : W) (σ : Sto) : Prop := ∃ i t kvs kd, d = .ref i ∧ y = .d kd ∧ σ[i]? = some (.dct t kvs) ∧ (if t = true then isKT kd = true else isK kd = true) ∧ kvs.length < sizeLine ∧ S (σ.set i (.dct t (dput kvs kd w)))
section
variable {k : AK} {e : Ev} {σ : Sto} {Q : QK} {X : XQ} {a b : AS} {fa fb fc : AE} {ft fu : AT} {fr : AA} {g : AG} {R : List W → (Sto → Prop) → Sto → Prop} {B : Bool → Sto → Prop} {L : List W → Sto → Prop} {N : Ev → Sto → Prop} {w : W} {i j : Nat}
theorem r_fn {n : Nat} {ws : List W} {Q : QK} (h : a { nx := fun _ σ' => Q (.d .none) σ', rt := Q, ex := fun _ => X } (aStart n ws) σ) : aFn n a ws σ Q X := h
theorem r_seq (h : a { k with nx := b k } e σ) : aSeq a b k e σ := h
theorem r_next (h : k.nx e σ) : aNext k e σ := h
theorem r_drop (h : fa e σ (fun _ σ1 => k.nx e σ1) (k.ex e)) : aDrop fa k e σ := h
theorem r_ret (h : fa e σ k.rt (k.ex e)) : aRet fa k e σ := h
theorem r_retN (h : k.rt (.d .none) σ) : aRetN k e σ := h
theorem r_ifS (h : ft e σ (fun c σ1 => if c = true then a k e σ1 else b k e σ1) (k.ex e)) : aIfS ft a b k e σ := h
theorem r_asg (h : fa e σ (fun w σ1 => g w e σ1 k.nx) (k.ex e)) : aAsg fa g k e σ := h
theorem r_agN (h : N (e.set i (some w)) σ) : agN i w e σ N := h
theorem r_var (h : e[i]? = some (some w)) (q : Q w σ) : aVar i e σ Q X := ⟨w, h, q⟩
theorem r_d {x : PyData} (q : Q (.d x) σ) : aD x e σ Q X := q
theorem r_op {ra : W → W → Sto → QK → Prop} (h : fa e σ (fun x σ1 => fb e σ1 (fun y σ2 => ra x y σ2 Q) X) X) : aOp ra fa fb e σ Q X := h
theorem r_un {ra : W → Sto → QK → Prop} (h : fa e σ (fun x σ1 => ra x σ1 Q) X) : aUn ra fa e σ Q X := h
theorem r_nil (h : L [] σ) : aNil e σ L X := h
theorem r_cons (h : fa e σ (fun x σ1 => fr e σ1 (fun xs σ2 => L (x :: xs) σ2) X) X) : aCons fa fr e σ L X := h
theorem r_cb {ra : List W → Sto → QK → Prop} (h : fr e σ (fun xs σ1 => ra xs σ1 Q) X) : aCB ra fr e σ Q X := h
theorem r_test (h : fa e σ (fun x σ1 => tstB B x σ1) X) : aTest fa e σ B X := h
theorem r_tbool {c : Bool} (h : B c σ) : tstB B (.d (.bool c)) σ := ⟨c, rfl, h⟩
theorem r_and (h : ft e σ (fun b σ1 => if b = true then fu e σ1 B X else B false σ1) X) : aAnd ft fu e σ B X := h
theorem r_or (h : ft e σ (fun b σ1 => if b = true then B true σ1 else fu e σ1 B X) X) : aOr ft fu e σ B X := h
theorem r_not (h : ft e σ (fun b σ1 => B (!b) σ1) X) : aNot ft e σ B X := h
theorem r_andV (h : fa e σ (fun x σ1 => tstB (fun b σ1 => if b = true then fb e σ1 Q X else Q (.d (.bool false)) σ1) x σ1) X) : aAndV fa fb e σ Q X := h
theorem r_orV (h : fa e σ (fun x σ1 => tstB (fun b σ1 => if b = true then Q (.d (.bool true)) σ1 else fb e σ1 Q X) x σ1) X) : aOrV fa fb e σ Q X := h
theorem r_notV (h : fa e σ (fun x σ1 => tstB (fun b σ1 => Q (.d (.bool (!b))) σ1) x σ1) X) : aNotV fa e σ Q X := h
theorem r_if (h : ft e σ (fun b σ1 => if b = true then fa e σ1 Q X else fb e σ1 Q X) X) : aIf ft fa fb e σ Q X := h
theorem r_iteT {p q : Prop} (h : p) : if true = true then p else q := by rw [if_pos rfl]; exact h
theorem r_iteF {p q : Prop} (h : q) : if false = true then p else q := by rw [if_neg (by decide)]; exact h
theorem r_ite {p q : Prop} {c : Prop} {dc : Decidable c} (h1 : c → p) (h2 : ¬ c → q) : if @decide c dc = true then p else q := by
  by_cases h : c
  · rw [if_pos (decide_eq_true h)]; exact h1 h
  · rw [if_neg (by rw [decide_eq_false h]; decide)]; exact h2 h
theorem r_iteN {p q : Prop} {c : Prop} {dc : Decidable c} (h1 : ¬ c → p) (h2 : c → q) : if (!@decide c dc) = true then p else q := by
  by_cases h : c
  · rw [decide_eq_true h, if_neg (by decide)]; exact h2 h
  · rw [decide_eq_false h, if_pos (by rfl)]; exact h1 h
theorem r_iteB {p q : Prop} {c : Bool} (h1 : c = true → p) (h2 : c = false → q) : if c = true then p else q := by
  cases c with
  | true => rw [if_pos rfl]; exact h1 rfl
  | false => rw [if_neg (by decide)]; exact h2 rfl
theorem r_tup (h : fr e σ (fun ws σ1 => purL (fun ds => Q (.d (.tuple ds)) σ1) ws) X) : aTup fr e σ Q X := h
theorem r_lst (h : fr e σ (fun ws σ1 => purL (fun ds => Q (.d (.list ds)) σ1) ws) X) : aLst fr e σ Q X := h
theorem r_pures {P : List PyData → Prop} {ws : List W} {ds : List PyData} (h : pures ws = some ds) (hl : ds.length ≤ sizeLine) (q : P ds) : purL P ws := ⟨ds, h, hl, q⟩
theorem r_lstC (h : fr e σ (fun ws σ1 => ws.length ≤ sizeLine ∧ Q (.ref σ1.length) (σ1 ++ [.lst ws])) X) : aLstC fr e σ Q X := h
theorem r_dnew {t : Bool} (h : Q (.ref σ.length) (σ ++ [.dct t []])) : aDNew t e σ Q X := h
theorem r_call {mf : AF} {n : Nat} (h : fr e σ (fun ws σ1 => ws.length = n ∧ mf ws σ1 Q X) X) : aCall mf n fr e σ Q X := h
theorem r_2 {f : PyData → PyData → (PyData → Prop) → Prop} {x y : PyData} (h : f x y fun z => Q (.d z) σ) : ra2 f (.d x) (.d y) σ Q := ⟨x, y, rfl, rfl, h⟩
theorem r_1 {f : PyData → (PyData → Prop) → Prop} {x : PyData} (h : f x fun z => Q (.d z) σ) : ra1 f (.d x) σ Q := ⟨x, rfl, h⟩
variable {P : PyData → Prop} {x y : PyData} {m n : Int} {s t : Str}
theorem r_addI (h : P (.int (m + n))) : addD (.int m) (.int n) P := h
theorem r_addS (hl : s.length + t.length ≤ sizeLine) (h : P (.str (s ++ t))) : addD (.str s) (.str t) P := ⟨hl, h⟩
theorem r_addL {xs ys : List PyData} (hl : xs.length + ys.length ≤ sizeLine) (h : P (.list (xs ++ ys))) : addD (.list xs) (.list ys) P := ⟨hl, h⟩
theorem r_addT {xs ys : List PyData} (hl : xs.length + ys.length ≤ sizeLine) (h : P (.tuple (xs ++ ys))) : addD (.tuple xs) (.tuple ys) P := ⟨hl, h⟩
theorem r_subI (h : P (.int (m - n))) : subD (.int m) (.int n) P := h
theorem r_mulI (hc : CMulU m n) (h : P (.int (m * n))) : mulD (.int m) (.int n) P := ⟨hc, h⟩
theorem r_mulS (h0 : 0 ≤ n) (h1 : n ≤ 1000) (h2 : s.length ≤ 1000) (h : P (.str (repS s n.toNat))) : mulD (.str s) (.int n) P := ⟨h0, h1, h2, h⟩
theorem r_modI (hc : 0 < n) (h : P (.int (m % n))) : modD (.int m) (.int n) P := ⟨hc, h⟩
theorem r_fdivI (hc : CDivU m n) (h : P (.int (m / n))) : fdivD (.int m) (.int n) P := ⟨hc, h⟩
theorem r_powI (hc : CPow m n) (h : P (.int (m ^ n.toNat))) : powD (.int m) (.int n) P := ⟨hc, h⟩
theorem r_negI (h : P (.int (-m))) : negD (.int m) P := h
theorem r_eqI (h : P (.bool (decide (m = n)))) : eqF false (.int m) (.int n) P := ⟨True.intro, h⟩
theorem r_eqS (h : P (.bool (decide (s = t)))) : eqF false (.str s) (.str t) P := ⟨True.intro, h⟩
theorem r_neI (h : P (.bool (!decide (m = n)))) : eqF true (.int m) (.int n) P := ⟨True.intro, h⟩
theorem r_neS (h : P (.bool (!decide (s = t)))) : eqF true (.str s) (.str t) P := ⟨True.intro, h⟩
theorem r_ltI (h : P (.bool (decide (m < n)))) : ordF fLt (.int m) (.int n) P := ⟨okLt_int m n, by rw [fLt_int]; exact h⟩
theorem r_leI (h : P (.bool (decide (m ≤ n)))) : ordF fLe (.int m) (.int n) P := ⟨okLt_int m n, by rw [fLe_int]; exact h⟩
theorem r_gtI (h : P (.bool (decide (n < m)))) : ordF fGt (.int m) (.int n) P := ⟨okLt_int m n, by rw [fGt_int]; exact h⟩
theorem r_geI (h : P (.bool (decide (n ≤ m)))) : ordF fGe (.int m) (.int n) P := ⟨okLt_int m n, by rw [fGe_int]; exact h⟩
theorem r_ixT {ds : List PyData} (hi : atI ds m = some x) (h : Q (.d x) σ) : ixW (.d (.tuple ds)) (.d (.int m)) σ Q := ⟨_, rfl, _, rfl, ds.map .d, .d x, rfl, by rw [atI_map, hi]; rfl, h⟩
theorem r_ixL {ds : List PyData} (hi : atI ds m = some x) (h : Q (.d x) σ) : ixW (.d (.list ds)) (.d (.int m)) σ Q := ⟨_, rfl, _, rfl, ds.map .d, .d x, rfl, by rw [atI_map, hi]; rfl, h⟩
theorem r_ixS {c : Nat} (hl : s.length ≤ sizeLine) (hi : atI s.cps.toList m = some c) (h : Q (.d (.str ⟨#[c]⟩)) σ) : ixW (.d (.str s)) (.d (.int m)) σ Q := ⟨_, rfl, _, rfl, hl, c, hi, h⟩
theorem r_ixD {a : W} {kvs : List (PyData × W)} (hp : prsOf σ a = some kvs) (hk : keyC kvs y) (hg : dget kvs y = some w) (h : Q w σ) : ixW a (.d y) σ Q := by
  refine ⟨y, rfl, ?_⟩
  rw [hp]
  exact ⟨hk, w, hg, h⟩
theorem r_ixC {ws : List W} (hc : σ[i]? = some (.lst ws)) (hi : atI ws m = some w) (h : Q w σ) : ixW (.ref i) (.d (.int m)) σ Q := by
  refine ⟨_, rfl, ?_⟩
  have : prsOf σ (.ref i) = none := by simp [prsOf, hc]
  rw [this]
  exact ⟨m, rfl, ws, w, by simp [itemsOf, hc], hi, h⟩
theorem r_lenS (hl : s.length ≤ sizeLine) (h : Q (.d (.int s.length)) σ) : lenW [.d (.str s)] σ Q := ⟨_, rfl, hl, h⟩
theorem r_lenL {ds : List PyData} (h : Q (.d (.int ds.length)) σ) : lenW [.d (.list ds)] σ Q := ⟨_, rfl, _, rfl, by rw [List.length_map]; exact h⟩
theorem r_lenT {ds : List PyData} (h : Q (.d (.int ds.length)) σ) : lenW [.d (.tuple ds)] σ Q := ⟨_, rfl, _, rfl, by rw [List.length_map]; exact h⟩
theorem r_lenC {ws : List W} (hc : σ[i]? = some (.lst ws)) (h : Q (.d (.int ws.length)) σ) : lenW [.ref i] σ Q := ⟨_, rfl, ws, by simp [itemsOf, hc], h⟩
theorem r_bm {T : String} {ra : W → List W → Sto → QK → Prop} (h : fa e σ (fun w σ1 => tyW T σ1 w ∧ fr e σ1 (fun ws σ2 => ra w ws σ2 Q) X) X) : aBM T ra fa fr e σ Q X := h
theorem r_append {ws : List W} (hc : σ[i]? = some (.lst ws)) (hl : ws.length < sizeLine) (h : Q (.d .none) (σ.set i (.lst (ws ++ [w])))) : appendW (.ref i) [w] σ Q := ⟨i, ws, w, rfl, rfl, hc, hl, h⟩
theorem r_join {ys : List Str} (hl : (ys.map (·.length)).sum + ys.length * s.length ≤ 16777216) (h : Q (.d (.str (PySem.Txt.join s ys))) σ) : joinW (.d (.str s)) [.d (.list (ys.map .str))] σ Q := ⟨s, _, ys, rfl, rfl, rfl, hl, h⟩
theorem r_dput {fd fk fv : AE} (h : fv e σ (fun w σ1 => fd e σ1 (fun d σ2 => fk e σ2 (fun y σ3 => putD (fun s => k.nx e s) w d y σ3) (k.ex e)) (k.ex e)) (k.ex e)) : aDPut fd fk fv k e σ := h
theorem r_put {S : Sto → Prop} {kvs : List (PyData × W)} {t : Bool} {kd : PyData} {w : W} (hc : σ[i]? = some (.dct t kvs)) (hk : if t = true then isKT kd = true else isK kd = true) (hl : kvs.length < sizeLine) (h : S (σ.set i (.dct t (dput kvs kd w)))) :
    putD S w (.ref i) (.d kd) σ := ⟨i, t, kvs, kd, rfl, rfl, hc, hk, hl, h⟩
theorem r_sl {fl fu : AO} (h : fa e σ (fun w σ1 => fl e σ1 (fun l σ2 => fu e σ2 (fun u σ3 => slW w l u σ3 Q) X) X) X) : aSl fa fl fu e σ Q X := h
theorem r_noP {O : Option Int → Sto → Prop} (h : O none σ) : aNoP e σ O X := h
theorem r_part {O : Option Int → Sto → Prop} (h : fa e σ (fun w σ1 => pntI O w σ1) X) : aPart fa e σ O X := h
theorem r_pint {O : Option Int → Sto → Prop} (h : O (some m) σ) : pntI O (.d (.int m)) σ := ⟨m, rfl, h⟩
theorem r_slS {l u : Option Int} (hl : s.length ≤ sizeLine) (h : Q (.d (.str (cutS s l u))) σ) : slW (.d (.str s)) l u σ Q := ⟨_, rfl, hl, h⟩
theorem r_slL {ds : List PyData} {l u : Option Int} (h : Q (.d (.list (cutL ds l u))) σ) : slW (.d (.list ds)) l u σ Q := ⟨_, rfl, h⟩
theorem r_slT {ds : List PyData} {l u : Option Int} (h : Q (.d (.tuple (cutL ds l u))) σ) : slW (.d (.tuple ds)) l u σ Q := ⟨_, rfl, h⟩
theorem r_it (h : fa e σ (fun w σ1 => itW σ1 R w) X) : aIt fa e σ R X := h
theorem r_r1 (h : fr e σ (fun ws σ1 => rngI (fun j => R (rngL 0 j.toNat) (fun _ => True) σ1) ws) X) : aR1 fr e σ R X := h
theorem r_rng {S : Int → Prop} (h1 : -(2 ^ 62) ≤ m) (h2 : m < 2 ^ 62) (h : S m) : rngI S [.d (.int m)] := ⟨m, rfl, h1, h2, h⟩
theorem r_tuple {ds : List PyData} (h : Q (.d (.tuple ds)) σ) : tupleW [.d (.list ds)] σ Q := ⟨_, _, ds, rfl, rfl, pures_map ds, h⟩
theorem r_list {ds : List PyData} (h : Q (.d (.list ds)) σ) : listW [.d (.list ds)] σ Q := ⟨_, _, ds, rfl, rfl, pures_map ds, h⟩
theorem r_chain {ra rb : W → W → Sto → QK → Prop} (h : fa e σ (fun x σ1 => fb e σ1 (fun y σ2 => ra x y σ2 (fun z σ3 => tstB (fun k σ3 => if k = true then fc e σ3 (fun w σ4 => rb y w σ4 Q) X else Q (.d (.bool false)) σ3) z σ3)) X) X) : aChain ra rb fa fb fc e σ Q X := h
end
theorem r_l1 {a : W} {p : Prop} (h : p) : [a].length = 1 ∧ p := ⟨rfl, h⟩
theorem r_l2 {a b : W} {p : Prop} (h : p) : [a, b].length = 2 ∧ p := ⟨rfl, h⟩
theorem r_l3 {a b c : W} {p : Prop} (h : p) : [a, b, c].length = 3 ∧ p := ⟨rfl, h⟩
theorem r_l4 {a b c d : W} {p : Prop} (h : p) : [a, b, c, d].length = 4 ∧ p := ⟨rfl, h⟩
theorem r_tyS {σ : Sto} {s : Str} {p : Prop} (h : p) : tyW "str" σ (.d (.str s)) ∧ p := ⟨rfl, h⟩
theorem r_tyC {σ : Sto} {i : Nat} {ws : List W} {p : Prop} (hc : σ[i]? = some (.lst ws)) (h : p) : tyW "list" σ (.ref i) ∧ p := ⟨by simp [tyW, hc], h⟩
theorem r_inL {n : Bool} {x : PyData} {ys : List PyData} {σ : Sto} {Q : QK} (h1 : SeqAt.shaped x = true) (h2 : SeqAt.shaped (.tuple ys) = true) (h : Q (.d (.bool (if n then !ys.any (fun z => PyData.eqv z x) else ys.any (fun z => PyData.eqv z x)))) σ) : inW n (.d x) (.d (.list ys)) σ Q := ⟨x, rfl, ys, rfl, h1, h2, h⟩
theorem r_inT {n : Bool} {x : PyData} {ys : List PyData} {σ : Sto} {Q : QK} (h1 : SeqAt.shaped x = true) (h2 : SeqAt.shaped (.tuple ys) = true) (h : Q (.d (.bool (if n then !ys.any (fun z => PyData.eqv z x) else ys.any (fun z => PyData.eqv z x)))) σ) : inW n (.d x) (.d (.tuple ys)) σ Q := ⟨x, rfl, ys, rfl, h1, h2, h⟩
theorem r_inD {n : Bool} {x : PyData} {b : W} {kvs : List (PyData × W)} {σ : Sto} {Q : QK} (hp : prsOf σ b = some kvs) (hk : keyC kvs x) (h : Q (.d (.bool (if n then !(dget kvs x).isSome else (dget kvs x).isSome))) σ) : inW n (.d x) b σ Q := by
  refine ⟨x, rfl, ?_⟩
  rw [hp]
  exact ⟨hk, h⟩
def stpD (Q : QK) (w y : W) (σ : Sto) : Prop := ∃ ds st, dat σ w = some (.list ds) ∧ y = .d (.int st) ∧ (st = 1 ∨ st = -1) ∧ Q (.d (.list (if st = 1 then ds else ds.reverse))) σ
theorem r_stp {fa fs : AE} {e : Ev} {σ : Sto} {Q : QK} {X : XQ} (h : fa e σ (fun w σ1 => fs e σ1 (fun y σ2 => stpD Q w y σ2) X) X) : aStp fa fs e σ Q X := h
theorem r_stpL {ds : List PyData} {st : Int} {Q : QK} {σ : Sto} (hs : st = 1 ∨ st = -1) (q : Q (.d (.list (if st = 1 then ds else ds.reverse))) σ) : stpD Q (.d (.list ds)) (.d (.int st)) σ := ⟨ds, st, rfl, rfl, hs, q⟩
/-- the turns of a comprehension whose list stays -/
def lcFz (ag : AG) (ft : AT) (fa : AE) (e0 : Ev) (X : XQ) (Q : QK) (items : List W) (stay : Sto → Prop) (σ : Sto) : Prop :=
  lcGo ag ft fa e0 σ.length stay X (fun σf => ∃ ws ds, σf[σ.length]? = some (.lst ws) ∧ FrzAll σ.length σf ws ds ∧ Shed σ.length σ σf ∧ Q (.d (.list ds)) (σf.take σ.length)) items (σ ++ [.lst []])
theorem r_lc {ai : AI} {ag : AG} {ft : AT} {fa : AE} {vs : List Nat} {e : Ev} {σ : Sto} {Q : QK} {X : XQ} (h : ai e σ (fun items stay σ1 => lcFz ag ft fa (wipeE e vs) X Q items stay σ1) X) : aLc ai ag ft fa vs e σ Q X := h
def tgN (acc : List PyData) (Rest : Sto → Prop) (n : Nat) (y : W) (σ4 : Sto) : Prop := ∃ acc4, σ4[n]? = some (.lst acc4) ∧ acc4.length < sizeLine ∧ Rest (σ4.set n (.lst (acc4 ++ [y])))
theorem r_for {ai : AI} {ag : AG} {body : AS} {k : AK} {e : Ev} {σ : Sto} (h : ai e σ (fun items stay σ1 => aLoop ag body stay k items e σ1) (k.ex e)) : aFor ai ag body k e σ := h
theorem r_yes {e : Ev} {σ : Sto} {B : Bool → Sto → Prop} {X : XQ} (h : B true σ) : aYes e σ B X := h
theorem r_itL {R : List W → (Sto → Prop) → Sto → Prop} {σ : Sto} {ds : List PyData} (h : R (ds.map .d) (fun _ => True) σ) : itW σ R (.d (.list ds)) := h
theorem r_itT {R : List W → (Sto → Prop) → Sto → Prop} {σ : Sto} {ds : List PyData} (h : R (ds.map .d) (fun _ => True) σ) : itW σ R (.d (.tuple ds)) := h
/-! ### loops, by what holds ahead of turn j -/
theorem lc_run {ag : AG} {ft : AT} {fa : AE} {e0 : Ev} {n : Nat} {X : XQ} {Fin : Sto → Prop} {stay : Sto → Prop} {items : List W} (I : Nat → List W → Sto → Prop) {σ : Sto} (hn : ∀ j acc σ, I j acc σ → σ.length = n) (h0 : I 0 [] σ)
    (step : ∀ j w acc σ (Rest : Sto → Prop), items[j]? = some w → I j acc σ → (∀ acc' σ', I (j + 1) acc' σ' → Rest (σ' ++ [.lst acc'])) → stay (σ ++ [.lst acc]) ∧ ag w e0 (σ ++ [.lst acc]) (fun e2 σ2 => ft e2 σ2 (fun b σ3 => if b = true then fa e2 σ3 (fun y σ4 => ∃ acc4, σ4[n]? = some (.lst acc4) ∧ acc4.length < sizeLine ∧ Rest (σ4.set n (.lst (acc4 ++ [y])))) X else Rest σ3) X))
    (fin : ∀ acc σ, I items.length acc σ → stay (σ ++ [.lst acc]) ∧ Fin (σ ++ [.lst acc])) : lcGo ag ft fa e0 n stay X Fin items (σ ++ [.lst []]) := by
  have key : ∀ m j acc σ, m + j = items.length → I j acc σ → lcGo ag ft fa e0 n stay X Fin (items.drop j) (σ ++ [.lst acc]) := by
    intro m
    induction m with
    | zero =>
      intro j acc σ hm hi
      have : j = items.length := by omega
      subst this
      rw [List.drop_length]
      exact fin acc σ hi
    | succ m ih =>
      intro j acc σ hm hi
      have hj : j < items.length := by omega
      rw [List.drop_eq_getElem_cons hj]
      exact step j items[j] acc σ _ (List.getElem?_eq_getElem hj) hi fun acc' σ' h => ih (j + 1) acc' σ' (by omega) h
  exact key items.length 0 [] σ (by omega) h0
theorem lc_done {σ σ' : Sto} {acc : List W} {c : List PyData} {Q : QK} (hl : σ'.length = σ.length) (hs : ∀ (i : Nat) (d : Cell), σ'[i]? = some d → σ[i]? = some d ∨ CloC σ.length d) (hp : pures acc = some c) (q : Q (.d (.list c)) σ') :
    ∃ ws ds, (σ' ++ [Cell.lst acc])[σ.length]? = some (.lst ws) ∧ FrzAll σ.length (σ' ++ [.lst acc]) ws ds ∧ Shed σ.length σ (σ' ++ [.lst acc]) ∧ Q (.d (.list ds)) ((σ' ++ [Cell.lst acc]).take σ.length) := by
  refine ⟨acc, c, by rw [← hl]; simp, frzAll_pures hp, ⟨by simp [hl], fun i d hi h => ?_⟩, by rw [← hl]; simpa using q⟩
  rw [List.getElem?_append_left (by omega)] at h
  exact hs i d h
theorem lc_app {σ' : Sto} {n : Nat} {acc : List W} {y : W} {Rest : Sto → Prop} (hn : σ'.length = n) (hl : acc.length < sizeLine) (q : Rest (σ' ++ [.lst (acc ++ [y])])) : ∃ acc4, (σ' ++ [Cell.lst acc])[n]? = some (.lst acc4) ∧ acc4.length < sizeLine ∧ Rest ((σ' ++ [Cell.lst acc]).set n (.lst (acc4 ++ [y]))) :=
  ⟨acc, by rw [← hn]; simp, hl, by rw [← hn]; simpa using q⟩
theorem lc_fz {ag : AG} {ft : AT} {fa : AE} {e0 : Ev} {X : XQ} {Q : QK} {stay : Sto → Prop} {items : List W} {σ : Sto} (I : Nat → List PyData → Sto → Prop) (h0 : I 0 [] σ)
    (sh : ∀ j acc σ', I j acc σ' → σ'.length = σ.length ∧ ∀ (i : Nat) (d : Cell), σ'[i]? = some d → σ[i]? = some d ∨ CloC σ.length d)
    (step : ∀ j w acc σ' (Rest : Sto → Prop), items[j]? = some w → I j acc σ' → (∀ acc' σ'', I (j + 1) acc' σ'' → Rest (σ'' ++ [.lst (acc'.map .d)])) → stay (σ' ++ [.lst (acc.map .d)]) ∧
      ag w e0 (σ' ++ [.lst (acc.map .d)]) (fun e2 σ2 => ft e2 σ2 (fun b σ3 => if b = true then fa e2 σ3 (fun y σ4 => tgN acc Rest σ.length y σ4) X else Rest σ3) X))
    (fin : ∀ acc σ', I items.length acc σ' → stay (σ' ++ [.lst (acc.map .d)]) ∧ Q (.d (.list acc)) σ') : lcFz ag ft fa e0 X Q items stay σ := by
  refine lc_run (fun j acc σ' => ∃ ds, acc = ds.map .d ∧ I j ds σ') (fun j acc σ' ⟨ds, _, h⟩ => (sh j ds σ' h).1) ⟨[], rfl, h0⟩ (fun j w acc σ' Rest hw ⟨ds, e, h⟩ k => ?_) fun acc σ' ⟨ds, e, h⟩ => ?_
  · subst e
    exact step j w ds σ' Rest hw h fun acc' σ'' h' => k _ _ ⟨acc', rfl, h'⟩
  · subst e
    obtain ⟨h1, h2⟩ := sh _ _ _ h
    obtain ⟨f1, f2⟩ := fin ds σ' h
    exact ⟨f1, lc_done h1 h2 (pures_map ds) f2⟩
theorem tg_app {σ' : Sto} {n : Nat} {acc : List PyData} {d : PyData} {Rest : Sto → Prop} (hn : σ'.length = n) (hl : acc.length < sizeLine) (q : Rest (σ' ++ [.lst ((acc ++ [d]).map .d)])) : tgN acc Rest n (.d d) (σ' ++ [.lst (acc.map .d)]) :=
  lc_app hn (by rw [List.length_map]; exact hl) (by simpa using q)
theorem loop_run {ag : AG} {body : AS} {stay : Sto → Prop} {k : AK} {items : List W} (I : Nat → Ev → Sto → Prop) {e : Ev} {σ : Sto} (h0 : I 0 e σ)
    (step : ∀ j w e σ (Rest : Ev → Sto → Prop), items[j]? = some w → I j e σ → (∀ e' σ', I (j + 1) e' σ' → Rest e' σ') → stay σ ∧ ag w e σ (fun e1 σ1 => body { k with nx := Rest } e1 σ1))
    (fin : ∀ e σ, I items.length e σ → stay σ ∧ k.nx e σ) : aLoop ag body stay k items e σ := by
  have key : ∀ m j e σ, m + j = items.length → I j e σ → aLoop ag body stay k (items.drop j) e σ := by
    intro m
    induction m with
    | zero =>
      intro j e σ hm hi
      have : j = items.length := by omega
      subst this
      rw [List.drop_length]
      exact fin e σ hi
    | succ m ih =>
      intro j e σ hm hi
      have hj : j < items.length := by omega
      rw [List.drop_eq_getElem_cons hj]
      exact step j items[j] e σ _ (List.getElem?_eq_getElem hj) hi fun e' σ' h => ih (j + 1) e' σ' (by omega) h
  exact key items.length 0 e σ (by omega) h0
theorem gn_run {α : Type} {ag : AG} {ft : AT} {fa : AE} {e0 : Ev} {stay : Sto → Prop} {X : XQ} {stp : α → W → (α → Prop) → Sto → Prop} {Fin : α → Sto → Prop} {items : List W} (I : Nat → α → Sto → Prop) {a : α} {σ : Sto} (h0 : I 0 a σ)
    (step : ∀ j w a σ (Rest : α → Sto → Prop), items[j]? = some w → I j a σ → (∀ a' σ', I (j + 1) a' σ' → Rest a' σ') → stay σ ∧ ag w e0 σ (fun e2 σ2 => ft e2 σ2 (fun b σ3 => if b = true then fa e2 σ3 (fun y σ4 => stp a y (fun a' => Rest a' σ4) σ4) X else Rest a σ3) X))
    (fin : ∀ a σ, I items.length a σ → stay σ ∧ Fin a σ) : gnGo ag ft fa e0 stay X stp Fin items a σ := by
  have key : ∀ m j a σ, m + j = items.length → I j a σ → gnGo ag ft fa e0 stay X stp Fin (items.drop j) a σ := by
    intro m
    induction m with
    | zero =>
      intro j a σ hm hi
      have : j = items.length := by omega
      subst this
      rw [List.drop_length]
      exact fin a σ hi
    | succ m ih =>
      intro j a σ hm hi
      have hj : j < items.length := by omega
      rw [List.drop_eq_getElem_cons hj]
      exact step j items[j] a σ _ (List.getElem?_eq_getElem hj) hi fun a' σ' h => ih (j + 1) a' σ' (by omega) h
  exact key items.length 0 a σ (by omega) h0
theorem dc_run {ag : AG} {ft : AT} {fk fv : AE} {e0 : Ev} {n : Nat} {X : XQ} {Fin : Sto → Prop} {stay : Sto → Prop} {items : List W} (I : Nat → List (PyData × W) → Sto → Prop) {σ : Sto} (hn : ∀ j acc σ, I j acc σ → σ.length = n) (h0 : I 0 [] σ)
    (step : ∀ j w acc σ (Rest : Sto → Prop), items[j]? = some w → I j acc σ → (∀ acc' σ', I (j + 1) acc' σ' → Rest (σ' ++ [.dct true acc'])) → stay (σ ++ [.dct true acc]) ∧ ag w e0 (σ ++ [.dct true acc]) (fun e2 σ2 => ft e2 σ2 (fun b σ3 => if b = true then fk e2 σ3 (fun y σ4 => fv e2 σ4 (fun z σ5 => ∃ kd acc5, y = .d kd ∧ isKT kd = true ∧ σ5[n]? = some (.dct true acc5) ∧ acc5.length < sizeLine ∧ Rest (σ5.set n (.dct true (dput acc5 kd z)))) X) X else Rest σ3) X))
    (fin : ∀ acc σ, I items.length acc σ → stay (σ ++ [.dct true acc]) ∧ Fin (σ ++ [.dct true acc])) : dcGo ag ft fk fv e0 n stay X Fin items (σ ++ [.dct true []]) := by
  have key : ∀ m j acc σ, m + j = items.length → I j acc σ → dcGo ag ft fk fv e0 n stay X Fin (items.drop j) (σ ++ [.dct true acc]) := by
    intro m
    induction m with
    | zero =>
      intro j acc σ hm hi
      have : j = items.length := by omega
      subst this
      rw [List.drop_length]
      exact fin acc σ hi
    | succ m ih =>
      intro j acc σ hm hi
      have hj : j < items.length := by omega
      rw [List.drop_eq_getElem_cons hj]
      exact step j items[j] acc σ _ (List.getElem?_eq_getElem hj) hi fun acc' σ' h => ih (j + 1) acc' σ' (by omega) h
  exact key items.length 0 [] σ (by omega) h0
end Aw
local macro_rules
  | `(tactic| and_intros) => `(tactic| repeat (first | (with_reducible (first | refine Aw.r_seq ?_ | refine Aw.r_next ?_ | refine Aw.r_drop ?_ | refine Aw.r_ret ?_ | refine Aw.r_retN ?_ | refine Aw.r_ifS ?_ | refine Aw.r_asg ?_ | refine Aw.r_agN ?_ | refine Aw.r_op ?_ | refine Aw.r_un ?_ | refine Aw.r_nil ?_ | refine Aw.r_cons ?_ | refine Aw.r_cb ?_ | refine Aw.r_test ?_ | refine Aw.r_and ?_ | refine Aw.r_or ?_ | refine Aw.r_not ?_ | refine Aw.r_andV ?_ | refine Aw.r_orV ?_ | refine Aw.r_notV ?_ | refine Aw.r_if ?_ | refine Aw.r_tup ?_ | refine Aw.r_lst ?_ | refine Aw.r_lstC ?_ | refine Aw.r_dnew ?_ | refine Aw.r_call ?_ | refine Aw.r_2 ?_ | refine Aw.r_1 ?_ | refine Aw.r_addI ?_ | refine Aw.r_subI ?_ | refine Aw.r_negI ?_ | refine Aw.r_eqI ?_ | refine Aw.r_eqS ?_ | refine Aw.r_neI ?_ | refine Aw.r_neS ?_ | refine Aw.r_ltI ?_ | refine Aw.r_leI ?_ | refine Aw.r_gtI ?_ | refine Aw.r_geI ?_ | refine Aw.r_lenL ?_ | refine Aw.r_lenT ?_ | refine Aw.r_bm ?_ | refine Aw.r_dput ?_ | refine Aw.r_sl ?_ | refine Aw.r_noP ?_ | refine Aw.r_part ?_ | refine Aw.r_pint ?_ | refine Aw.r_slL ?_ | refine Aw.r_slT ?_ | refine Aw.r_it ?_ | refine Aw.r_r1 ?_ | refine Aw.r_tuple ?_ | refine Aw.r_list ?_ | refine Aw.r_chain ?_ | refine Aw.r_iteT ?_ | refine Aw.r_iteF ?_ | refine Aw.r_tbool ?_ | refine Aw.r_fn ?_ | refine Aw.r_d ?_ | refine Aw.r_stp ?_ | refine Aw.r_lc ?_ | refine Aw.r_for ?_ | refine Aw.r_yes ?_ | refine Aw.r_itL ?_ | refine Aw.r_itT ?_ | refine Aw.r_tyS ?_ | refine Aw.r_l1 ?_ | refine Aw.r_l2 ?_ | refine Aw.r_l3 ?_ | refine Aw.r_l4 ?_)) | ((with_reducible apply Aw.r_var); case h => rfl)))

/-! AwM: to want less is easier: where a part may be cut out. -/
namespace Aw
open PySem PySem.Spec PyProof.Rows L2 Mw
class MoE (f : AE) : Prop where
  mo : ∀ {e σ X} {Q Q' : QK}, (∀ w s, Q w s → Q' w s) → f e σ Q X → f e σ Q' X
class MoT (f : AT) : Prop where
  mo : ∀ {e σ X} {Q Q' : Bool → Sto → Prop}, (∀ w s, Q w s → Q' w s) → f e σ Q X → f e σ Q' X
class MoA (f : AA) : Prop where
  mo : ∀ {e σ X} {Q Q' : List W → Sto → Prop}, (∀ w s, Q w s → Q' w s) → f e σ Q X → f e σ Q' X
class MoO (f : AO) : Prop where
  mo : ∀ {e σ X} {Q Q' : Option Int → Sto → Prop}, (∀ w s, Q w s → Q' w s) → f e σ Q X → f e σ Q' X
class MoI (f : AI) : Prop where
  mo : ∀ {e σ X} {Q Q' : List W → (Sto → Prop) → Sto → Prop}, (∀ w p s, Q w p s → Q' w p s) → f e σ Q X → f e σ Q' X
class Mo2 (f : W → W → Sto → QK → Prop) : Prop where
  mo : ∀ {a b σ} {Q Q' : QK}, (∀ w s, Q w s → Q' w s) → f a b σ Q → f a b σ Q'
class Mo1 (f : W → Sto → QK → Prop) : Prop where
  mo : ∀ {a σ} {Q Q' : QK}, (∀ w s, Q w s → Q' w s) → f a σ Q → f a σ Q'
class MoC (f : List W → Sto → QK → Prop) : Prop where
  mo : ∀ {a σ} {Q Q' : QK}, (∀ w s, Q w s → Q' w s) → f a σ Q → f a σ Q'
class MoM (f : W → List W → Sto → QK → Prop) : Prop where
  mo : ∀ {a b σ} {Q Q' : QK}, (∀ w s, Q w s → Q' w s) → f a b σ Q → f a b σ Q'
class MoF (f : AF) : Prop where
  mo : ∀ {ws σ X} {Q Q' : QK}, (∀ w s, Q w s → Q' w s) → f ws σ Q X → f ws σ Q' X
class MoD2 (f : PyData → PyData → (PyData → Prop) → Prop) : Prop where
  mo : ∀ {a b} {Q Q' : PyData → Prop}, (∀ w, Q w → Q' w) → f a b Q → f a b Q'
class MoD1 (f : PyData → (PyData → Prop) → Prop) : Prop where
  mo : ∀ {a} {Q Q' : PyData → Prop}, (∀ w, Q w → Q' w) → f a Q → f a Q'
class MoG (g : AG) : Prop where
  mo : ∀ {w e σ} {N N' : Ev → Sto → Prop}, (∀ e s, N e s → N' e s) → g w e σ N → g w e σ N'
class MoGs (g : List W → Ev → Sto → (Ev → Sto → Prop) → Prop) : Prop where
  mo : ∀ {w e σ} {N N' : Ev → Sto → Prop}, (∀ e s, N e s → N' e s) → g w e σ N → g w e σ N'
class MoS (a : AS) : Prop where
  mo : ∀ {k k' : AK} {e σ}, (∀ e s, k.nx e s → k'.nx e s) → (∀ w s, k.rt w s → k'.rt w s) → k.ex = k'.ex → a k e σ → a k' e σ
section
variable {fa fb fc : AE} {ft fu : AT} {fr fs : AA} {fo fp : AO} {ai : AI} {ag : AG} {a b : AS} {r2 r2' : W → W → Sto → QK → Prop} {r1 : W → Sto → QK → Prop} {rc : List W → Sto → QK → Prop} {rm : W → List W → Sto → QK → Prop} {mf : AF} {d2 : PyData → PyData → (PyData → Prop) → Prop} {d1 : PyData → (PyData → Prop) → Prop}
/-- cut a part out -/
theorem cutE [m : MoE fa] {e : Ev} {σ : Sto} {X : XQ} {Q : QK} (P : QK) (h : fa e σ P X) (k : ∀ w s, P w s → Q w s) : fa e σ Q X := m.mo k h
theorem cutT [m : MoT ft] {e : Ev} {σ : Sto} {X : XQ} {Q : Bool → Sto → Prop} (P : Bool → Sto → Prop) (h : ft e σ P X) (k : ∀ w s, P w s → Q w s) : ft e σ Q X := m.mo k h
theorem cutI [m : MoI ai] {e : Ev} {σ : Sto} {X : XQ} {Q : List W → (Sto → Prop) → Sto → Prop} (P : List W → (Sto → Prop) → Sto → Prop) (h : ai e σ P X) (k : ∀ w p s, P w p s → Q w p s) : ai e σ Q X := m.mo k h
instance {i : Nat} : MoE (aVar i) := ⟨fun k ⟨w, h, q⟩ => ⟨w, h, k _ _ q⟩⟩
instance {x : PyData} : MoE (aD x) := ⟨fun k q => k _ _ q⟩
instance [MoE fa] [MoE fb] [Mo2 r2] : MoE (aOp r2 fa fb) := ⟨fun k q => MoE.mo (f := fa) (fun _ _ q => MoE.mo (f := fb) (fun _ _ q => Mo2.mo k q) q) q⟩
instance [MoE fa] [Mo1 r1] : MoE (aUn r1 fa) := ⟨fun k q => MoE.mo (f := fa) (fun _ _ q => Mo1.mo k q) q⟩
instance : MoA aNil := ⟨fun k q => k _ _ q⟩
instance [MoE fa] [MoA fr] : MoA (aCons fa fr) := ⟨fun k q => MoE.mo (f := fa) (fun _ _ q => MoA.mo (f := fr) (fun _ _ q => k _ _ q) q) q⟩
instance [MoA fr] [MoC rc] : MoE (aCB rc fr) := ⟨fun k q => MoA.mo (f := fr) (fun _ _ q => MoC.mo k q) q⟩
instance [MoE fa] : MoT (aTest fa) := ⟨fun k q => MoE.mo (f := fa) (fun _ _ ⟨b, e, q⟩ => ⟨b, e, k _ _ q⟩) q⟩
theorem ite_mo {c : Prop} [Decidable c] {p q p' q' : Prop} (h1 : p → p') (h2 : q → q') (h : if c then p else q) : if c then p' else q' := by
  by_cases z : c
  · rw [if_pos z] at h ⊢; exact h1 h
  · rw [if_neg z] at h ⊢; exact h2 h
instance [MoT ft] [MoT fu] : MoT (aAnd ft fu) := ⟨fun k q => MoT.mo (f := ft) (fun _ _ q => ite_mo (MoT.mo (f := fu) k) (k _ _) q) q⟩
instance [MoT ft] [MoT fu] : MoT (aOr ft fu) := ⟨fun k q => MoT.mo (f := ft) (fun _ _ q => ite_mo (k _ _) (MoT.mo (f := fu) k) q) q⟩
instance [MoT ft] : MoT (aNot ft) := ⟨fun k q => MoT.mo (f := ft) (fun _ _ q => k _ _ q) q⟩
instance : MoT aYes := ⟨fun k q => k _ _ q⟩
instance [MoE fa] [MoE fb] : MoE (aAndV fa fb) := ⟨fun k q => MoE.mo (f := fa) (fun _ _ ⟨b, e, q⟩ => ⟨b, e, ite_mo (MoE.mo (f := fb) k) (k _ _) q⟩) q⟩
instance [MoE fa] [MoE fb] : MoE (aOrV fa fb) := ⟨fun k q => MoE.mo (f := fa) (fun _ _ ⟨b, e, q⟩ => ⟨b, e, ite_mo (k _ _) (MoE.mo (f := fb) k) q⟩) q⟩
instance [MoE fa] : MoE (aNotV fa) := ⟨fun k q => MoE.mo (f := fa) (fun _ _ ⟨b, e, q⟩ => ⟨b, e, k _ _ q⟩) q⟩
instance [MoT ft] [MoE fa] [MoE fb] : MoE (aIf ft fa fb) := ⟨fun k q => MoT.mo (f := ft) (fun _ _ q => ite_mo (MoE.mo (f := fa) k) (MoE.mo (f := fb) k) q) q⟩
instance [MoE fa] : MoE (aIsN fa) := ⟨fun k q => MoE.mo (f := fa) (fun _ _ q => k _ _ q) q⟩
instance [MoE fa] : MoE (aNotN fa) := ⟨fun k q => MoE.mo (f := fa) (fun _ _ q => k _ _ q) q⟩
instance [MoE fa] [MoE fb] [MoE fc] [Mo2 r2] [Mo2 r2'] : MoE (aChain r2 r2' fa fb fc) := ⟨fun k q => MoE.mo (f := fa) (fun _ _ q => MoE.mo (f := fb) (fun _ _ q => Mo2.mo (fun _ _ ⟨b, e, q⟩ => ⟨b, e, ite_mo (MoE.mo (f := fc) fun _ _ q => Mo2.mo k q) (k _ _) q⟩) q) q) q⟩
instance [MoA fr] : MoE (aTup fr) := ⟨fun k q => MoA.mo (f := fr) (fun _ _ ⟨ds, h, l, q⟩ => ⟨ds, h, l, k _ _ q⟩) q⟩
instance [MoA fr] : MoE (aLst fr) := ⟨fun k q => MoA.mo (f := fr) (fun _ _ ⟨ds, h, l, q⟩ => ⟨ds, h, l, k _ _ q⟩) q⟩
instance [MoA fr] : MoE (aLstC fr) := ⟨fun k q => MoA.mo (f := fr) (fun _ _ ⟨l, q⟩ => ⟨l, k _ _ q⟩) q⟩
instance {t : Bool} : MoE (aDNew t) := ⟨fun k q => k _ _ q⟩
instance [MoA fr] [MoF mf] {n : Nat} : MoE (aCall mf n fr) := ⟨fun k q => MoA.mo (f := fr) (fun _ _ ⟨l, q⟩ => ⟨l, MoF.mo k q⟩) q⟩
instance [MoE fa] [MoO fo] [MoO fp] : MoE (aSl fa fo fp) := ⟨fun k q => MoE.mo (f := fa) (fun w _ q => MoO.mo (f := fo) (fun _ _ q => MoO.mo (f := fp) (fun _ _ q => by
  cases w with
  | scr ns => exact k _ _ q
  | ref i =>
    obtain ⟨x, h, q⟩ := q
    refine ⟨x, h, ?_⟩
    cases x <;> first | exact k _ _ q | exact ⟨q.1, k _ _ q.2⟩ | exact q.elim
  | d y =>
    obtain ⟨x, h, q⟩ := q
    refine ⟨x, h, ?_⟩
    cases x <;> first | exact k _ _ q | exact ⟨q.1, k _ _ q.2⟩ | exact q.elim) q) q) q⟩
instance : MoO aNoP := ⟨fun k q => k _ _ q⟩
instance [MoE fa] : MoO (aPart fa) := ⟨fun k q => MoE.mo (f := fa) (fun _ _ ⟨i, e, q⟩ => ⟨i, e, k _ _ q⟩) q⟩
instance [MoE fa] [MoA fr] [MoM rm] {T : String} : MoE (aBM T rm fa fr) := ⟨fun k q => MoE.mo (f := fa) (fun _ _ ⟨t, q⟩ => ⟨t, MoA.mo (f := fr) (fun _ _ q => MoM.mo k q) q⟩) q⟩
instance [MoE fa] [MoE fb] : MoE (aStp fa fb) := ⟨fun k q => MoE.mo (f := fa) (fun _ _ q => MoE.mo (f := fb) (fun _ _ ⟨ds, st, h1, h2, h3, q⟩ => ⟨ds, st, h1, h2, h3, k _ _ q⟩) q) q⟩
instance [MoA fr] [MoA fs] : MoE (aMaxD fr fs) := ⟨fun k q => MoA.mo (f := fr) (fun _ _ q => MoA.mo (f := fs) (fun _ _ ⟨w, ns, d, h1, h2, h3, q⟩ => ⟨w, ns, d, h1, h2, h3, k _ _ q⟩) q) q⟩
instance [MoE fa] {n : String} : MoE (aIsi n fa) := ⟨fun k q => MoE.mo (f := fa) (fun _ _ ⟨d, b, h1, h2, h3, q⟩ => ⟨d, b, h1, h2, h3, k _ _ q⟩) q⟩
instance [MoD2 d2] : Mo2 (ra2 d2) := ⟨fun k ⟨x, y, h1, h2, q⟩ => ⟨x, y, h1, h2, MoD2.mo (fun _ q => k _ _ q) q⟩⟩
instance [MoD1 d1] : Mo1 (ra1 d1) := ⟨fun k ⟨x, h1, q⟩ => ⟨x, h1, MoD1.mo (fun _ q => k _ _ q) q⟩⟩
instance : MoD2 addD := ⟨fun {a b Q Q'} k q => by cases a <;> cases b <;> first | exact q.elim | exact k _ q | exact ⟨q.1, k _ q.2⟩⟩
instance : MoD2 subD := ⟨fun {a b Q Q'} k q => by cases a <;> cases b <;> first | exact q.elim | exact k _ q⟩
instance : MoD2 mulD := ⟨fun {a b Q Q'} k q => by cases a <;> cases b <;> first | exact q.elim | exact ⟨q.1, k _ q.2⟩ | exact ⟨q.1, q.2.1, q.2.2.1, k _ q.2.2.2⟩⟩
instance : MoD2 fdivD := ⟨fun {a b Q Q'} k q => by cases a <;> cases b <;> first | exact q.elim | exact ⟨q.1, k _ q.2⟩⟩
instance : MoD2 modD := ⟨fun {a b Q Q'} k q => by cases a <;> cases b <;> first | exact q.elim | exact ⟨q.1, k _ q.2⟩⟩
instance : MoD2 powD := ⟨fun {a b Q Q'} k q => by cases a <;> cases b <;> first | exact q.elim | exact ⟨q.1, k _ q.2⟩⟩
instance : MoD1 negD := ⟨fun {a Q Q'} k q => by cases a <;> first | exact q.elim | exact k _ q⟩
instance {n : Bool} : MoD2 (eqF n) := ⟨fun k ⟨h, q⟩ => ⟨h, k _ q⟩⟩
instance {f : PyData → PyData → Bool} : MoD2 (ordF f) := ⟨fun k ⟨h, q⟩ => ⟨h, k _ q⟩⟩
instance {n : Bool} : Mo2 (inW n) := ⟨fun {a b σ Q Q'} k ⟨x, h, q⟩ => by
  refine ⟨x, h, ?_⟩
  cases hp : prsOf σ b with
  | some kvs => rw [hp] at q; exact ⟨q.1, k _ _ q.2⟩
  | none =>
    rw [hp] at q
    obtain ⟨ys, h1, h2, h3, q⟩ := q
    exact ⟨ys, h1, h2, h3, k _ _ q⟩⟩
instance : Mo2 ixW := ⟨fun {a b σ Q Q'} k ⟨y, h, q⟩ => by
  refine ⟨y, h, ?_⟩
  cases hp : prsOf σ a with
  | some kvs =>
    rw [hp] at q
    obtain ⟨h1, w, h2, q⟩ := q
    exact ⟨h1, w, h2, k _ _ q⟩
  | none =>
    rw [hp] at q
    obtain ⟨i, h1, q⟩ := q
    refine ⟨i, h1, ?_⟩
    cases a with
    | ref j => obtain ⟨ws, w, h2, h3, q⟩ := q; exact ⟨ws, w, h2, h3, k _ _ q⟩
    | scr j => obtain ⟨ws, w, h2, h3, q⟩ := q; exact ⟨ws, w, h2, h3, k _ _ q⟩
    | d x =>
      cases x <;> first
        | (obtain ⟨ws, w, h2, h3, q⟩ := q; exact ⟨ws, w, h2, h3, k _ _ q⟩)
        | (obtain ⟨h2, c, h3, q⟩ := q; exact ⟨h2, c, h3, k _ _ q⟩)⟩
instance : MoC lenW := ⟨fun {a σ Q Q'} k ⟨w, h, q⟩ => by
  refine ⟨w, h, ?_⟩
  cases w with
  | ref j => obtain ⟨ws, h2, q⟩ := q; exact ⟨ws, h2, k _ _ q⟩
  | scr j => obtain ⟨ws, h2, q⟩ := q; exact ⟨ws, h2, k _ _ q⟩
  | d x =>
    cases x <;> first
      | (obtain ⟨ws, h2, q⟩ := q; exact ⟨ws, h2, k _ _ q⟩)
      | exact ⟨q.1, k _ _ q.2⟩⟩
instance : MoC listW := ⟨fun k ⟨w, ys, ds, h1, h2, h3, q⟩ => ⟨w, ys, ds, h1, h2, h3, k _ _ q⟩⟩
instance : MoC listCW := ⟨fun k ⟨w, ys, h1, h2, q⟩ => ⟨w, ys, h1, h2, k _ _ q⟩⟩
instance : MoC tupleW := ⟨fun k ⟨w, ys, ds, h1, h2, h3, q⟩ => ⟨w, ys, ds, h1, h2, h3, k _ _ q⟩⟩
instance : MoC ordW := ⟨fun k ⟨x, h1, h2, q⟩ => ⟨x, h1, h2, k _ _ q⟩⟩
instance : MoC intW := ⟨fun k q => q.elim (fun ⟨i, h, q⟩ => .inl ⟨i, h, k _ _ q⟩) fun ⟨i, h, q⟩ => .inr ⟨i, h, k _ _ q⟩⟩
instance : MoC reprW := ⟨fun k ⟨w, d, h1, h2, h3, q⟩ => ⟨w, d, h1, h2, h3, k _ _ q⟩⟩
instance : MoC srtW := ⟨fun k ⟨i, kvs, ns, h1, h2, h3, q⟩ => ⟨i, kvs, ns, h1, h2, h3, k _ _ q⟩⟩
instance : MoC listKW := ⟨fun k ⟨i, kvs, h1, h2, q⟩ => ⟨i, kvs, h1, h2, k _ _ q⟩⟩
instance : MoM appendW := ⟨fun k ⟨i, ys, y, h1, h2, h3, h4, q⟩ => ⟨i, ys, y, h1, h2, h3, h4, k _ _ q⟩⟩
instance : MoM joinW := ⟨fun k ⟨z, w, ys, h1, h2, h3, h4, q⟩ => ⟨z, w, ys, h1, h2, h3, h4, k _ _ q⟩⟩
instance [MoE fa] : MoI (aIt fa) := ⟨fun k q => MoE.mo (f := fa) (fun w _ q => by
  cases w with
  | ref i => exact q.elim (fun ⟨ws, h, q⟩ => .inl ⟨ws, h, k _ _ _ q⟩) fun ⟨t, ws, h, q⟩ => .inr ⟨t, ws, h, k _ _ _ q⟩
  | scr i => exact q.elim
  | d x => cases x <;> first | exact q.elim | exact k _ _ _ q) q⟩
instance [MoA fr] : MoI (aR1 fr) := ⟨fun k q => MoA.mo (f := fr) (fun _ _ ⟨j, h1, h2, h3, q⟩ => ⟨j, h1, h2, h3, k _ _ _ q⟩) q⟩
instance [MoA fr] : MoI (aR2 fr) := ⟨fun k q => MoA.mo (f := fr) (fun _ _ ⟨i, j, h1, h2, q⟩ => ⟨i, j, h1, h2, k _ _ _ q⟩) q⟩
instance {i : Nat} : MoG (agN i) := ⟨fun k q => k _ _ q⟩
instance : MoGs agNil := ⟨fun k q => ⟨q.1, k _ _ q.2⟩⟩
instance {g : List W → Ev → Sto → (Ev → Sto → Prop) → Prop} [MoG ag] [MoGs g] : MoGs (agCons ag g) := ⟨fun k ⟨w, r, h, q⟩ => ⟨w, r, h, MoG.mo (g := ag) (fun _ _ q => MoGs.mo (g := g) k q) q⟩⟩
instance {g : List W → Ev → Sto → (Ev → Sto → Prop) → Prop} {n : Nat} [MoGs g] : MoG (agT n g) := ⟨fun k ⟨ds, h1, h2, q⟩ => ⟨ds, h1, h2, MoGs.mo (g := g) k q⟩⟩
theorem lcGo_mo [MoG ag] [MoT ft] [MoE fa] {e0 : Ev} {n : Nat} {stay : Sto → Prop} {X : XQ} {Fin Fin' : Sto → Prop} (k : ∀ s, Fin s → Fin' s) : ∀ {items : List W} {σ : Sto}, lcGo ag ft fa e0 n stay X Fin items σ → lcGo ag ft fa e0 n stay X Fin' items σ
  | [], _, ⟨h, q⟩ => ⟨h, k _ q⟩
  | w :: r, _, ⟨h, q⟩ => ⟨h, MoG.mo (g := ag) (fun _ _ q => MoT.mo (f := ft) (fun _ _ q => ite_mo (MoE.mo (f := fa) fun _ _ ⟨acc, h1, h2, q⟩ => ⟨acc, h1, h2, lcGo_mo k q⟩) (lcGo_mo k) q) q) q⟩
instance [MoI ai] [MoG ag] [MoT ft] [MoE fa] {vs : List Nat} : MoE (aLc ai ag ft fa vs) := ⟨fun k q => MoI.mo (f := ai) (fun _ _ _ q => lcGo_mo (fun _ ⟨ws, ds, h1, h2, h3, q⟩ => ⟨ws, ds, h1, h2, h3, k _ _ q⟩) q) q⟩
instance [MoI ai] [MoG ag] [MoT ft] [MoE fa] {vs : List Nat} : MoE (aLcC ai ag ft fa vs) := ⟨fun k q => MoI.mo (f := ai) (fun _ _ _ q => lcGo_mo (fun _ q => k _ _ q) q) q⟩
end
end Aw

set_option maxHeartbeats 4000000
/-! LwA: what the law's draws do. -/
namespace Lw
open PySem PySem.Spec PyProof.Rows L2 Mw Aw
abbrev kvF (ns : List Int) (a l n : Int) : List (PyData × W) := [(.str "cells", .d (.list (ns.map .int))), (.str "at", .d (.int a)), (.str "left", .d (.int l)), (.str "count", .d (.int n))]
def IsFeed (c : Cell) : Prop := ∃ ns a l n, c = .dct false (kvF ns a l n) ∧ ns.length ≤ 63 ∧ 0 ≤ a
theorem sne {a b : Str} (h : (decide (a = b)) = false) : ¬ PyData.str a = PyData.str b := fun z => by
  injection z with z
  exact absurd z (of_decide_eq_false h)
section
variable (ns : List Int) (a l n : Int)
theorem g_cells : dget (kvF ns a l n) (.str "cells") = some (.d (.list (ns.map .int))) := dget_pos rfl
theorem g_at : dget (kvF ns a l n) (.str "at") = some (.d (.int a)) := by
  rw [dget_neg (sne (by decide +kernel)), dget_pos rfl]
theorem g_left : dget (kvF ns a l n) (.str "left") = some (.d (.int l)) := by
  rw [dget_neg (sne (by decide +kernel)), dget_neg (sne (by decide +kernel)), dget_pos rfl]
theorem g_count : dget (kvF ns a l n) (.str "count") = some (.d (.int n)) := by
  rw [dget_neg (sne (by decide +kernel)), dget_neg (sne (by decide +kernel)), dget_neg (sne (by decide +kernel)), dget_pos rfl]
theorem p_at (v : Int) : dput (kvF ns a l n) (.str "at") (.d (.int v)) = kvF ns v l n := by
  rw [dput_old (g_at ns a l n)]
  simp only [List.map_cons, List.map_nil, if_neg (sne (show decide (("cells" : Str) = "at") = false by decide +kernel)), if_neg (sne (show decide (("left" : Str) = "at") = false by decide +kernel)), if_neg (sne (show decide (("count" : Str) = "at") = false by decide +kernel)), if_true]
theorem p_left (v : Int) : dput (kvF ns a l n) (.str "left") (.d (.int v)) = kvF ns a v n := by
  rw [dput_old (g_left ns a l n)]
  simp only [List.map_cons, List.map_nil, if_neg (sne (show decide (("cells" : Str) = "left") = false by decide +kernel)), if_neg (sne (show decide (("at" : Str) = "left") = false by decide +kernel)), if_neg (sne (show decide (("count" : Str) = "left") = false by decide +kernel)), if_true]
theorem p_count (v : Int) : dput (kvF ns a l n) (.str "count") (.d (.int v)) = kvF ns a l v := by
  rw [dput_old (g_count ns a l n)]
  simp only [List.map_cons, List.map_nil, if_neg (sne (show decide (("cells" : Str) = "count") = false by decide +kernel)), if_neg (sne (show decide (("at" : Str) = "count") = false by decide +kernel)), if_neg (sne (show decide (("left" : Str) = "count") = false by decide +kernel)), if_true]
theorem kc_feed (x : Str) : keyC (kvF ns a l n) (.str x) := .inl ⟨rfl, fun p hp => by
  simp only [kvF, List.mem_cons, List.not_mem_nil, or_false] at hp
  rcases hp with rfl | rfl | rfl | rfl <;> rfl⟩
end
section
variable {σ : Sto} {F : Nat} {ns : List Int} {a l n v : Int} {Q : QK} {S : Sto → Prop}
theorem prs_feed (hc : σ[F]? = some (.dct false (kvF ns a l n))) : prsOf σ (.ref F) = some (kvF ns a l n) := by simp only [prsOf, hc]
theorem ix_count (hc : σ[F]? = some (.dct false (kvF ns a l n))) (h : Q (.d (.int n)) σ) : ixW (.ref F) (.d (.str "count")) σ Q := r_ixD (prs_feed hc) (kc_feed ..) (g_count ..) h
theorem ix_at (hc : σ[F]? = some (.dct false (kvF ns a l n))) (h : Q (.d (.int a)) σ) : ixW (.ref F) (.d (.str "at")) σ Q := r_ixD (prs_feed hc) (kc_feed ..) (g_at ..) h
theorem ix_left (hc : σ[F]? = some (.dct false (kvF ns a l n))) (h : Q (.d (.int l)) σ) : ixW (.ref F) (.d (.str "left")) σ Q := r_ixD (prs_feed hc) (kc_feed ..) (g_left ..) h
theorem ix_cells (hc : σ[F]? = some (.dct false (kvF ns a l n))) (h : Q (.d (.list (ns.map .int))) σ) : ixW (.ref F) (.d (.str "cells")) σ Q := r_ixD (prs_feed hc) (kc_feed ..) (g_cells ..) h
theorem four_lt : (4 : Nat) < sizeLine := by decide
theorem put_count (hc : σ[F]? = some (.dct false (kvF ns a l n))) (h : S (σ.set F (.dct false (kvF ns a l v)))) :
    putD S (.d (.int v)) (.ref F) (.d (.str "count")) σ := r_put hc rfl four_lt (by rw [p_count]; exact h)
theorem put_at (hc : σ[F]? = some (.dct false (kvF ns a l n))) (h : S (σ.set F (.dct false (kvF ns v l n)))) :
    putD S (.d (.int v)) (.ref F) (.d (.str "at")) σ := r_put hc rfl four_lt (by rw [p_at]; exact h)
theorem put_left (hc : σ[F]? = some (.dct false (kvF ns a l n))) (h : S (σ.set F (.dct false (kvF ns a v n)))) :
    putD S (.d (.int v)) (.ref F) (.d (.str "left")) σ := r_put hc rfl four_lt (by rw [p_left]; exact h)
end
/-- a draw: any number there may be -/
def fDraw : AF := fun ws σ Q _ => ∃ F m c, ws = [.ref F, .d (.int m)] ∧ 0 < m ∧ m < 1073741824 ∧ σ[F]? = some c ∧ IsFeed c ∧ ∀ r c', 0 ≤ r → r < m → IsFeed c' → Q (.d (.int r)) (σ.set F c')
theorem CMulU.l {a b : Int} (h1 : -(2 ^ 64) < a) (h2 : a < 2 ^ 64) : CMulU a b := .inl (.inl ⟨h1, h2⟩)
theorem ne_ints (ns : List Int) : (eqD (.list (ns.map PyData.int)) (.list [])).1 ∧ (eqD (.list (ns.map PyData.int)) (.list [])).2 = decide (ns = []) := ⟨⟨shapedInts ns, by decide +kernel⟩, eqvNil ns⟩
theorem draw_ok : ∀ ws σ Q X, fDraw ws σ Q X → aFn 6 pDraw ws σ Q X := by
  rintro ws σ Q X ⟨F, m, c, rfl, m0, m1, hc, ⟨ns, a, l, n, rfl, hl, ha⟩, q⟩
  have hF : F < σ.length := (List.getElem?_eq_some_iff.mp hc).1
  have nx : ∀ {σ' : Sto} {c : Cell}, (∀ d, σ'.set F d = σ.set F d) → (σ'.set F c)[F]? = some c ∧ ∀ d, (σ'.set F c).set F d = σ.set F d := fun {σ' c} hs => by
    rw [hs c]
    exact ⟨by rw [List.getElem?_set_self hF], fun d => by rw [List.set_set]⟩
  have hs0 : ∀ d, σ.set F d = σ.set F d := fun _ => rfl
  have cd : ∀ i, CDivU i m := fun i => .inl ⟨m0, m1⟩
  and_intros
  refine ix_count hc ?_
  and_intros
  refine put_count hc ?_
  obtain ⟨hc1, hs1⟩ := nx (c := .dct false (kvF ns a l (n + 1))) hs0
  generalize σ.set F (.dct false (kvF ns a l (n + 1))) = σ1 at hc1 hs1 ⊢
  and_intros
  refine ix_left hc1 ?_
  and_intros
  refine r_ite (fun hpos => ?_) fun hneg => ?_
  · and_intros
    refine ix_left hc1 ?_
    and_intros
    refine r_modI m0 ?_
    and_intros
    refine ix_left hc1 ?_
    and_intros
    refine r_fdivI (cd _) ?_
    and_intros
    refine put_left hc1 ?_
    and_intros
    show Q _ _
    rw [hs1]
    exact q _ _ (Int.emod_nonneg _ (by omega)) (Int.emod_lt_of_pos _ m0) ⟨_, _, _, _, rfl, hl, ha⟩
  · and_intros
    refine ix_at hc1 ?_
    and_intros
    refine put_at hc1 ?_
    obtain ⟨hc2, hs2⟩ := nx (c := .dct false (kvF ns (a + 1) l (n + 1))) hs1
    generalize σ1.set F (.dct false (kvF ns (a + 1) l (n + 1))) = σ2 at hc2 hs2 ⊢
    have fin : ∀ (r : Int) (l' : Int), 0 ≤ r → r < m → Q (.d (.int r)) (σ.set F (.dct false (kvF ns (a + 1) l' (n + 1)))) := fun r l' h1 h2 => q _ _ h1 h2 ⟨_, _, _, _, rfl, hl, by omega⟩
    have e2 : σ2 = σ.set F (.dct false (kvF ns (a + 1) l (n + 1))) := by
      rw [← hs2 (.dct false (kvF ns (a + 1) l (n + 1)))]
      obtain ⟨hl2, he2⟩ := List.getElem?_eq_some_iff.mp hc2
      rw [← he2]
      exact (List.set_getElem_self hl2).symm
    -- the cell
    with_reducible refine r_seq ?_
    with_reducible refine r_asg ?_
    refine cutE (fun w s => ∃ cell : Int, w = .d (.int cell) ∧ s = σ2) ?_ fun w s hw => ?_
    · and_intros
      refine ix_cells hc2 ?_
      and_intros
      refine r_pures rfl (Nat.zero_le _) ?_
      and_intros
      refine ⟨(ne_ints ns).1, ?_⟩
      rw [(ne_ints ns).2]
      and_intros
      refine r_iteN (fun hne => ?_) fun he => ?_
      · and_intros
        refine ix_cells hc2 ?_
        and_intros
        refine ix_cells hc2 ?_
        and_intros
        refine r_modI (by rw [List.length_map]; cases ns with | nil => exact absurd rfl hne | cons x r => simp) ?_
        and_intros
        obtain ⟨cell, hcell⟩ := item_at hne a
        have : atI (ns.map PyData.int) (a % ((ns.map PyData.int).length : Int)) = some (.int cell) := by
          have h1 := hcell
          rw [List.length_map, atI_map] at h1
          rw [List.length_map, atI_map]
          cases hh : atI ns (a % (ns.length : Int)) with
          | none => rw [hh] at h1; cases h1
          | some z =>
            rw [hh] at h1
            have : z = cell := by simpa using h1
            rw [this]; rfl
        exact r_ixL this ⟨cell, rfl, rfl⟩
      · and_intros
        exact ⟨3, rfl, rfl⟩
    obtain ⟨cell, rfl, rfl⟩ := hw
    with_reducible refine r_agN ?_
    with_reducible refine r_seq ?_
    with_reducible refine r_ifS ?_
    refine cutT (fun _ s' => s' = s) ?_ fun b s' hb => ?_
    · and_intros
      refine r_powI ⟨by decide, by decide, by decide⟩ ?_
      and_intros
      refine r_ite (fun _ => ?_) fun _ => ?_
      · and_intros
        refine ix_cells hc2 ?_
        and_intros
        rfl
      · rfl
    subst hb
    refine r_iteB (fun _ => ?_) fun _ => ?_
    · and_intros
      refine r_fdivI (cd _) ?_
      and_intros
      refine put_left hc2 ?_
      and_intros
      refine r_modI m0 ?_
      and_intros
      show Q _ _
      rw [hs2]
      exact fin _ _ (Int.emod_nonneg _ (by omega)) (Int.emod_lt_of_pos _ m0)
    · and_intros
      refine r_modI (by decide) ?_
      and_intros
      refine ix_count hc2 ?_
      and_intros
      refine r_mulI (CMulU.l (by decide) (by decide)) ?_
      and_intros
      refine r_modI (by decide) ?_
      and_intros
      generalize hM : (cell % 1000000007 + 40503 * (n + 1) + 17) % 2147483629 = M
      have M0 : 0 ≤ M := by rw [← hM]; exact Int.emod_nonneg _ (by decide)
      have M1 : M < 2147483629 := by rw [← hM]; exact Int.emod_lt_of_pos _ (by decide)
      refine r_mulI (CMulU.l (by omega) (by omega)) ?_
      and_intros
      refine ix_count hc2 ?_
      and_intros
      refine r_mulI (CMulU.l (by decide) (by decide)) ?_
      and_intros
      refine r_modI (by decide) ?_
      and_intros
      generalize hL : (M * M + 15485863 * (n + 1) + 1) % 2147483587 = L
      have L0 : 0 ≤ L := by rw [← hL]; exact Int.emod_nonneg _ (by decide)
      have L1 : L < 2147483587 := by rw [← hL]; exact Int.emod_lt_of_pos _ (by decide)
      refine r_mulI (CMulU.l (by omega) (by omega)) ?_
      and_intros
      refine r_mulI (CMulU.l (by decide) (by decide)) ?_
      and_intros
      refine r_modI (by decide) ?_
      and_intros
      refine r_fdivI (.inl ⟨by decide, by decide⟩) ?_
      and_intros
      refine r_modI m0 ?_
      and_intros
      show Q _ _
      rw [e2]
      exact fin _ _ (Int.emod_nonneg _ (by omega)) (Int.emod_lt_of_pos _ m0)
instance : MoF fDraw := ⟨fun k ⟨F, m, c, h1, h2, h3, h4, h5, q⟩ => ⟨F, m, c, h1, h2, h3, h4, h5, fun r c' a b d => k _ _ (q r c' a b d)⟩⟩
/-- the feed -/
def fFeed : AF := fun ws σ Q _ => ∃ ns, ws = [.scr ns] ∧ ns.length ≤ 63 ∧ ∀ c, IsFeed c → Q (.ref σ.length) (σ ++ [c])
end Lw

set_option maxHeartbeats 4000000
/-! LwB: the words of the worlds. -/
namespace Lw
open PySem PySem.Spec PyProof.Rows L2 Mw Aw
/-- the cells: those from before, the feed's turned, and new ones -/
abbrev Sx (σ : Sto) (F : Nat) (c : Cell) (j : Sto) : Sto := σ.set F c ++ j
theorem sx_start {σ : Sto} {F : Nat} {c : Cell} (h : σ[F]? = some c) : σ = Sx σ F c [] := by
  obtain ⟨hl, he⟩ := List.getElem?_eq_some_iff.mp h
  rw [Sx, List.append_nil, ← he, List.set_getElem_self]
theorem sx_at {σ : Sto} {F : Nat} {c : Cell} {j : Sto} (h : F < σ.length) : (Sx σ F c j)[F]? = some c := by
  rw [List.getElem?_append_left (by simpa using h), List.getElem?_set_self h]
theorem sx_set {σ : Sto} {F : Nat} {c c' : Cell} {j : Sto} (h : F < σ.length) : (Sx σ F c j).set F c' = Sx σ F c' j := by
  rw [Sx, List.set_append_left _ _ (by simpa using h), List.set_set]
theorem sx_len {σ : Sto} {F : Nat} {c : Cell} {j : Sto} : (Sx σ F c j).length = σ.length + j.length := by simp
theorem sx_app {σ : Sto} {F : Nat} {c : Cell} {j j' : Sto} : Sx σ F c j ++ j' = Sx σ F c (j ++ j') := List.append_assoc ..
theorem IsFeed.clo {c : Cell} (h : IsFeed c) (n : Nat) : CloC n c := by
  obtain ⟨ns, a, l, k, rfl, _⟩ := h
  intro p hp
  simp only [kvF, List.mem_cons, List.not_mem_nil, or_false] at hp
  rcases hp with rfl | rfl | rfl | rfl <;> exact True.intro
section
variable {σ : Sto} {F : Nat} {c : Cell} {j : Sto} {m : Int} {Q : QK} {X : XQ}
theorem r_draw (hF : F < σ.length) (hf : IsFeed c) (m0 : 0 < m) (m1 : m < 1073741824) (q : ∀ r c', 0 ≤ r → r < m → IsFeed c' → Q (.d (.int r)) (Sx σ F c' j)) : fDraw [.ref F, .d (.int m)] (Sx σ F c j) Q X :=
  ⟨F, m, c, rfl, m0, m1, sx_at hF, hf, fun r c' h1 h2 h3 => by rw [sx_set hF]; exact q r c' h1 h2 h3⟩
/-- a letter drawn from a text -/
theorem told_x {x : PyData} (hf : IsFeed c) (q : Q (.d x) (σ.set F c)) : Told σ.length σ (Sx σ F c j) (.d x) Q := told_set (hf.clo _) q
end
theorem sx_sh {σ : Sto} {F : Nat} {c c' : Cell} {j : Sto} (hF : F < σ.length) (hf : IsFeed c') : (Sx σ F c' j).length = (Sx σ F c j).length ∧ ∀ (i : Nat) (d : Cell), (Sx σ F c' j)[i]? = some d → (Sx σ F c j)[i]? = some d ∨ CloC (Sx σ F c j).length d := by
  refine ⟨by simp, fun i d h => ?_⟩
  by_cases e : i = F
  · subst e
    rw [sx_at hF] at h
    cases h
    exact .inr (hf.clo _)
  · left
    rw [← h]
    by_cases hi : i < σ.length
    · rw [List.getElem?_append_left (by simpa using hi), List.getElem?_append_left (by simpa using hi), List.getElem?_set_ne (Ne.symm e), List.getElem?_set_ne (Ne.symm e)]
    · rw [List.getElem?_append_right (by simpa using hi), List.getElem?_append_right (by simpa using hi)]
      simp
theorem rng_at {lo : Int} {n j : Nat} {w : W} (h : (rngL lo n)[j]? = some w) : w = .d (.int (lo + j)) ∧ j < n := by
  unfold rngL at h
  rw [List.getElem?_map] at h
  obtain ⟨i, hi, rfl⟩ := Option.map_eq_some_iff.mp h
  obtain ⟨hl, e⟩ := List.getElem?_eq_some_iff.mp hi
  have : i = j := by simpa using e.symm
  subst this
  exact ⟨rfl, by simpa using hl⟩
theorem rng_len {lo : Int} {n : Nat} : (rngL lo n).length = n := by simp [rngL]
theorem abc_low : ∀ c ∈ (Str.ofString "abcdefghijklmnopqrstuvwxyz").cps.toList, 97 ≤ c ∧ c ≤ 122 := low_of (by decide +kernel)
theorem abc_asc : Asc 26 (Str.ofString "abcdefghijklmnopqrstuvwxyz") := asc_of (by decide +kernel)
theorem abc_len : ((Str.ofString "abcdefghijklmnopqrstuvwxyz").length : Int) = 26 := by decide +kernel
abbrev one (c : Nat) : Str := ⟨#[c]⟩
theorem cut_two {st : Str} {r : Int} {n : Nat} (h0 : 0 ≤ r) (h : st.length ≤ n) : (cutS st none (some r)).length + (cutS st (some r) none).length ≤ n := by
  obtain ⟨j, rfl⟩ : ∃ j : Nat, r = (j : Int) := ⟨r.toNat, (Int.toNat_of_nonneg h0).symm⟩
  have e1 : (cutS st none (some (j : Int))).length = min j st.length := by
    rw [str_len]
    show ((st.cps.toList.drop (HT.sIx st.length 0 none)).take (HT.sIx st.length st.length (some (j : Int)) - HT.sIx st.length 0 none)).toArray.toList.length = _
    rw [HT.sIx_none, HT.sIx_nat, List.toList_toArray, List.length_take, List.length_drop, ← str_len]
    omega
  have e2 : (cutS st (some (j : Int)) none).length = st.length - min j st.length := by
    rw [str_len]
    show ((st.cps.toList.drop (HT.sIx st.length 0 (some (j : Int)))).take (HT.sIx st.length st.length none - HT.sIx st.length 0 (some (j : Int)))).toArray.toList.length = _
    rw [HT.sIx_none, HT.sIx_nat, List.toList_toArray, List.length_take, List.length_drop, ← str_len]
    omega
  omega
abbrev ssD (ws : List Str) : PyData := .list (ws.map .str)
/-- the words of a world -/
def fWords : AF := fun ws σ Q _ => ∃ F m c, ws = [.ref F, .d (.int m)] ∧ 0 < m ∧ m ≤ 6 ∧ σ[F]? = some c ∧ IsFeed c ∧ ∀ zs c', (zs.length : Int) = m → (∀ z ∈ zs, Wrd z) → IsFeed c' → Q (.d (ssD zs)) (σ.set F c')
instance : MoF fWords := ⟨fun k ⟨F, m, c, h1, h2, h3, h4, h5, q⟩ => ⟨F, m, c, h1, h2, h3, h4, h5, fun r c' a b d => k _ _ (q r c' a b d)⟩⟩
/-- a letter of a text of small letters, drawn -/
def aSign (v : Nat) (F m : Nat) : AE := aOp ixW (aVar v) (aCall fDraw 2 (aCons (aVar F) (aCons (aD (.int m)) aNil)))
theorem r_sign {z : Str} {n : Nat} {r : Int} {σ : Sto} {Q : QK} (a : Asc n z) (hn : n ≤ 1000000) (h0 : 0 ≤ r) (h1 : r < (z.length : Int)) (q : ∀ c, c ∈ z.cps.toList → Q (.d (.str (one c))) σ) : ixW (.d (.str z)) (.d (.int r)) σ Q := by
  obtain ⟨c, hc, _⟩ := sign_at a h0 h1
  exact r_ixS (a.line hn) hc (q c (at_mem hc))
theorem small {n : Nat} (h : n ≤ 1000) : n < sizeLine := by rw [sizeLine_eq]; omega
theorem pur_strs (zs : List Str) : pures ((zs.map PyData.str).map W.d) = some (zs.map .str) := pures_map _
theorem words_ok : ∀ ws σ Q X, fWords ws σ Q X → aFn 13 (pWords fDraw) ws σ (fun w σ' => Told σ.length σ σ' w Q) X := by
  rintro ws σ Q X ⟨F, m, c, rfl, m0, m6, hc, hf, q⟩
  have hF : F < σ.length := (List.getElem?_eq_some_iff.mp hc).1
  have key : ∀ {zs : List Str} {c' : Cell} {j : Sto}, (zs.length : Int) = m → (∀ z ∈ zs, Wrd z) → IsFeed c' → Told σ.length σ (Sx σ F c' j) (.d (ssD zs)) Q := fun {zs c' j} h1 h2 h3 => told_x h3 (q zs c' h1 h2 h3)
  generalize hQ : (fun w σ' => Told σ.length σ σ' w Q) = Q' 
  have key' : ∀ {zs : List Str} {c' : Cell} {j : Sto}, (zs.length : Int) = m → (∀ z ∈ zs, Wrd z) → IsFeed c' → Q' (.d (ssD zs)) (Sx σ F c' j) := fun h1 h2 h3 => by rw [← hQ]; exact key h1 h2 h3
  have keyR : ∀ {zs : List Str} {c' : Cell} {j : Sto} {i : Nat}, σ.length ≤ i → (Sx σ F c' j)[i]? = some (.lst ((zs.map PyData.str).map .d)) → (zs.length : Int) = m → (∀ z ∈ zs, Wrd z) → IsFeed c' → Q' (.ref i) (Sx σ F c' j) := fun {zs c' j i} hi hc h1 h2 h3 => by
    rw [← hQ]
    refine ⟨.set (h3.clo _), .inl ⟨ssD zs, .lst hi hc (frzAll_pures (pur_strs zs)), ?_⟩⟩
    rw [List.take_append_of_le_length (by simp), List.take_of_length_le (by simp)]
    exact q zs c' h1 h2 h3
  rw [show aFn 13 (pWords fDraw) [.ref F, .d (.int m)] σ Q' X = aFn 13 (pWords fDraw) [.ref F, .d (.int m)] (Sx σ F c []) Q' X by rw [← sx_start hc]]
  and_intros
  refine r_draw hF hf (by decide) (by decide) fun r1 c1 r10 r11 hf1 => ?_
  and_intros
  refine r_ite (fun _ => ?_) fun _ => ?_
  · -- beginnings of one another
    and_intros
    refine r_draw hF hf1 (by decide) (by decide) fun r2 c2 r20 r21 hf2 => ?_
    and_intros
    refine r_sign abc_asc (by decide) r20 (by rw [abc_len]; exact r21) fun sg hsg => ?_
    have low := abc_low sg hsg
    and_intros
    refine r_rng (by omega) (by omega) ?_
    refine lc_fz (fun i acc s => s = Sx σ F c2 [] ∧ ∃ zs : List Str, acc = zs.map .str ∧ zs.length = i ∧ ∀ z ∈ zs, Wrd z) ⟨rfl, [], rfl, rfl, fun z hz => by cases hz⟩ (fun i acc s h => by rw [h.1]; exact sx_sh hF hf2) (fun i w acc s Rest hw h k => ?_) fun acc s h => ?_
    · obtain ⟨rfl, zs, rfl, hzl, hza⟩ := h
      obtain ⟨rfl, hi⟩ := rng_at hw
      refine ⟨True.intro, ?_⟩
      and_intros
      refine r_mulS (by omega) (by omega) (by show (1 : Nat) ≤ 1000; decide) ?_
      refine tg_app rfl (small (by rw [List.length_map]; omega)) (k _ _ ⟨rfl, zs ++ [repS (one sg) (0 + (i : Int) + 1).toNat], by rw [List.map_append]; rfl, by rw [List.length_append, hzl]; rfl, fun z hz => ?_⟩)
      rcases List.mem_append.mp hz with h | h
      · exact hza z h
      · rw [List.mem_singleton.mp h]
        have e := rep_one sg (0 + (i : Int) + 1).toNat
        refine ⟨?_, ?_, fun c hc => ?_⟩
        · rw [str_len, e, List.length_replicate]; omega
        · rw [str_len, e, List.length_replicate]; omega
        · rw [e] at hc; rw [(List.mem_replicate.mp hc).2]; exact low
    · obtain ⟨rfl, zs, rfl, hzl, hza⟩ := h
      rw [rng_len] at hzl
      refine ⟨True.intro, ?_⟩
      and_intros
      refine r_draw hF hf2 (by decide) (by decide) fun r3 c3 r30 r31 hf3 => ?_
      and_intros
      refine r_mulI (CMulU.l (by decide) (by decide)) ?_
      and_intros
      refine r_stpL (by omega) ?_
      by_cases h1 : (1 - 2 * r3 : Int) = 1
      · rw [if_pos h1]
        exact key' (by omega) hza hf3
      · rw [if_neg h1, ← List.map_reverse]
        exact key' (by rw [List.length_reverse]; omega) (fun z hz => hza z (List.mem_reverse.mp hz)) hf3
  · -- a stem
    and_intros
    refine r_draw hF hf1 (by decide) (by decide) fun r2 c2 r20 r21 hf2 => ?_
    and_intros
    refine r_rng (by omega) (by omega) ?_
    refine lc_fz (fun i acc s => ∃ c, s = Sx σ F c [] ∧ IsFeed c ∧ ∃ l : List Nat, acc = (l.map one).map .str ∧ l.length = i ∧ ∀ x ∈ l, 97 ≤ x ∧ x ≤ 122) ⟨c2, rfl, hf2, [], rfl, rfl, fun z hz => by cases hz⟩ (fun i acc s ⟨c, h, hf, _⟩ => by rw [h]; exact sx_sh hF hf) (fun i w acc s Rest hw h k => ?_) fun acc s h => ?_
    · obtain ⟨c, rfl, hf, l, rfl, hll, hla⟩ := h
      obtain ⟨rfl, hi⟩ := rng_at hw
      refine ⟨True.intro, ?_⟩
      and_intros
      rw [sx_app]
      refine r_draw hF hf (by decide) (by decide) fun r c' r0 r1 hf' => ?_
      and_intros
      refine r_sign abc_asc (by decide) r0 (by rw [abc_len]; exact r1) fun sg hsg => ?_
      rw [← sx_app]
      refine tg_app (by simp) (small (by rw [List.length_map, List.length_map]; omega)) (k _ _ ⟨c', rfl, hf', l ++ [sg], by simp, by rw [List.length_append, hll]; rfl, fun z hz => ?_⟩)
      rcases List.mem_append.mp hz with h | h
      · exact hla z h
      · rw [List.mem_singleton.mp h]; exact abc_low sg hsg
    obtain ⟨c3, rfl, hf3, l, rfl, hll, hla⟩ := h
    rw [rng_len] at hll
    refine ⟨True.intro, ?_⟩
    and_intros
    refine r_join ?_ ?_
    · have h1 : ((l.map one).map (·.length)).sum ≤ (l.map one).length := sum_le_len fun y hy => by
        obtain ⟨c, _, rfl⟩ := List.mem_map.mp hy
        exact Nat.le_refl 1
      have h2 : (Str.ofString "").length = 0 := by decide +kernel
      rw [List.length_map] at h1
      rw [h2, Nat.mul_zero]
      omega
    have ejoin : PySem.Txt.join (Str.ofString "") (l.map one) = Str.join Str.empty (l.map one) := by
      rw [TL.join_eq]
      have : Str.ofString "" = Str.empty := by decide +kernel
      rw [this]
    rw [ejoin]
    have ez : (Str.join Str.empty (l.map one)).cps.toList = l := join_ones l
    generalize Str.join Str.empty (l.map one) = st at ez ⊢
    have sl : st.length ≤ 6 := by rw [str_len, ez]; omega
    have slow : ∀ c ∈ st.cps.toList, 97 ≤ c ∧ c ≤ 122 := by rw [ez]; exact hla
    have sasc : Asc 6 st := ⟨sl, fun c hc => by have := slow c hc; omega⟩
    clear ejoin ez hll hla
    and_intros
    refine r_lenS (sasc.line (by decide)) ?_
    and_intros
    refine r_draw hF hf3 (by omega) (by omega) fun r6 c6 r60 r61 hf6 => ?_
    and_intros
    refine r_draw hF hf6 (by decide) (by decide) fun r7 c7 r70 r71 hf7 => ?_
    and_intros
    refine r_pures rfl (by show 6 ≤ sizeLine; decide) ?_
    and_intros
    refine r_draw hF hf7 (by decide) (by decide) fun r8 c8 r80 r81 hf8 => ?_
    obtain ⟨kk, hk, k0, k25⟩ : ∃ kk : Int, atI [PyData.int 1, .int 3, .int 5, .int 7, .int 9, .int 25] r8 = some (.int kk) ∧ 0 ≤ kk ∧ kk ≤ 25 := by
      have : r8 = 0 ∨ r8 = 1 ∨ r8 = 2 ∨ r8 = 3 ∨ r8 = 4 ∨ r8 = 5 := by omega
      rcases this with rfl | rfl | rfl | rfl | rfl | rfl
      · exact ⟨1, rfl, by decide, by decide⟩
      · exact ⟨3, rfl, by decide, by decide⟩
      · exact ⟨5, rfl, by decide, by decide⟩
      · exact ⟨7, rfl, by decide, by decide⟩
      · exact ⟨9, rfl, by decide, by decide⟩
      · exact ⟨25, rfl, by decide, by decide⟩
    and_intros
    refine r_ixL hk ?_
    and_intros
    refine ⟨Nat.zero_le _, ?_⟩
    and_intros
    refine r_rng (by omega) (by omega) ?_
    have ln : (Sx σ F c8 []).length = σ.length := by simp
    rw [sx_app, ln]
    refine loop_run (fun i e s => ∃ v5 v11 v12 c zs, e = [some (.ref F), some (.d (.int m)), some (.d (.str (Str.ofString "abcdefghijklmnopqrstuvwxyz"))), some (.d (.int r1)), none, v5, some (.d (.str st)), some (.d (.int r6)), some (.d (.int r7)), some (.d (.int kk)), some (.ref σ.length), v11, v12] ∧
      s = Sx σ F c [.lst ((zs.map PyData.str).map .d)] ∧ IsFeed c ∧ zs.length = i ∧ ∀ z ∈ zs, Wrd z) ⟨none, none, none, c8, [], rfl, rfl, hf8, rfl, fun z hz => by cases hz⟩ (fun i w e s Rest hw h k => ?_) fun e s h => ?_
    · obtain ⟨v5, v11, v12, cc, zs, rfl, rfl, hfc, hzl, hza⟩ := h
      obtain ⟨rfl, hi⟩ := rng_at hw
      refine ⟨True.intro, ?_⟩
      and_intros
      refine r_draw hF hfc (by decide) (by decide) fun ra ca ra0 ra1 hfa => ?_
      and_intros
      refine r_sign abc_asc (by decide) ra0 (by rw [abc_len]; exact ra1) fun sa hsa => ?_
      and_intros
      refine r_draw hF hfa (by decide) (by decide) fun rb cb rb0 rb1 hfb => ?_
      and_intros
      refine r_mulS rb0 (by omega) (by show (1 : Nat) ≤ 1000; decide) ?_
      have tlow := abc_low sa hsa
      have et := rep_one sa rb.toNat
      generalize repS (one sa) rb.toNat = tl at et ⊢
      have tl1 : tl.length ≤ 1 := by rw [str_len, et, List.length_replicate]; omega
      have tll : ∀ c ∈ tl.cps.toList, 97 ≤ c ∧ c ≤ 122 := by
        rw [et]
        intro c hc
        rw [(List.mem_replicate.mp hc).2]
        exact tlow
      have b26 : 0 ≤ (r7 + (0 + (i : Int)) * kk) % 26 ∧ (r7 + (0 + (i : Int)) * kk) % 26 < 26 := ⟨Int.emod_nonneg _ (by decide), Int.emod_lt_of_pos _ (by decide)⟩
      and_intros
      refine r_mulI (CMulU.l (by omega) (by omega)) ?_
      and_intros
      refine r_modI (by decide) ?_
      refine r_sign abc_asc (by decide) b26.1 (by rw [abc_len]; exact b26.2) fun so hso => ?_
      have olow := abc_low so hso
      and_intros
      have hL : (Sx σ F cb [Cell.lst ((zs.map PyData.str).map .d)])[σ.length]? = some (.lst ((zs.map PyData.str).map .d)) := by
        rw [List.getElem?_append_right (by simp)]
        simp
      refine r_tyC hL ?_
      have lens : (cutS st none (some r6)).length + (cutS st (some r6) none).length ≤ 6 := cut_two r60 sl
      have l1 : (one so).length = 1 := rfl
      and_intros
      refine r_slS (sasc.line (by decide)) ?_
      and_intros
      refine r_addS (by rw [sizeLine_eq]; omega) ?_
      and_intros
      refine r_slS (sasc.line (by decide)) ?_
      and_intros
      refine r_addS (by rw [len_append, sizeLine_eq]; omega) ?_
      and_intros
      refine r_addS (by rw [len_append, len_append, sizeLine_eq]; omega) ?_
      and_intros
      refine r_append hL (small (by rw [List.length_map, List.length_map]; omega)) ?_
      refine k _ _ ⟨_, _, _, cb, zs ++ [cutS st none (some r6) ++ one so ++ cutS st (some r6) none ++ tl], rfl, ?_, hfb, by rw [List.length_append, hzl]; rfl, fun z hz => ?_⟩
      · rw [Sx, List.set_append_right _ _ (by simp)]
        simp
      rcases List.mem_append.mp hz with h | h
      · exact hza z h
      · rw [List.mem_singleton.mp h]
        refine ⟨?_, ?_, fun c hc => ?_⟩
        · rw [len_append, len_append, len_append]; omega
        · rw [len_append, len_append, len_append]; omega
        · rw [cl_append, cl_append, cl_append] at hc
          rcases List.mem_append.mp hc with hc | hc
          · rcases List.mem_append.mp hc with hc | hc
            · rcases List.mem_append.mp hc with hc | hc
              · exact slow c (cutS_sub c hc)
              · rw [cl_one] at hc; rw [List.mem_singleton.mp hc]; exact olow
            · exact slow c (cutS_sub c hc)
          · exact tll c hc
    · obtain ⟨v5, v11, v12, cc, zs, rfl, rfl, hfc, hzl, hza⟩ := h
      rw [rng_len] at hzl
      refine ⟨True.intro, ?_⟩
      and_intros
      refine keyR (Nat.le_refl _) ?_ (by omega) hza hfc
      rw [List.getElem?_append_right (by simp)]
      simp
end Lw

set_option maxHeartbeats 4000000
/-! LwC: worlds as cells; deeds. -/
namespace Lw
open PySem PySem.Spec PyProof.Rows L2 Mw Aw
theorem nmD_inj {a b : Nm} (h : nmD a = nmD b) : a = b := by
  unfold nmD at h
  simp only [PyData.tuple.injEq, List.cons.injEq, PyData.int.injEq, PyData.str.injEq, and_true] at h
  exact Prod.ext h.1 h.2
theorem kt_nm (n : Nm) : isKT (nmD n) = true := rfl
theorem get_names {α : Type} (f : Ch → α) (n : Nm) : ∀ cs : List Ch, dget (cs.map fun c => (nmD c.nm, f c)) (nmD n) = (findC cs n).map f
  | [] => rfl
  | c :: cs => by
    unfold findC
    rw [List.map_cons, List.find?_cons]
    by_cases h : c.nm = n
    · rw [dget_pos (by rw [h]), decide_eq_true h]; rfl
    · rw [dget_neg (fun z => h (nmD_inj z)), decide_eq_false h]
      exact get_names f n cs
abbrev kvW (n : Nat) : List (PyData × W) := [(.str "changes", .ref (n + 1)), (.str "knows", .ref (n + 2)), (.str "last", .ref (n + 3)), (.str "hangs", .ref (n + 4))]
abbrev kv1 (cs : List Ch) : List (PyData × W) := cs.map fun c => (nmD c.nm, .d (chD c))
abbrev kv2 (cs : List Ch) : List (PyData × W) := cs.map fun c => (nmD c.nm, .d (.list (c.kn.map nmD)))
/-- what the cells of a world hold -/
structure WdA (σ : Sto) (n : Nat) (cs : List Ch) : Prop where
  w : σ[n]? = some (.dct false (kvW n))
  a1 : σ[n + 1]? = some (.dct true (kv1 cs))
  a2 : σ[n + 2]? = some (.dct true (kv2 cs))
  a3 : ∃ kvs, σ[n + 3]? = some (.dct false kvs) ∧ (∀ p ∈ kvs, isK p.1 = true ∧ ∃ x, p.2 = .d x) ∧ kvs.length ≤ cs.length ∧ ∀ br, dget kvs (.str br) = (lastOf br cs).map fun x => .d (nmD x)
  a4 : ∃ hs : List Nm, σ[n + 4]? = some (.lst (hs.map fun x => .d (nmD x))) ∧ hs.length ≤ cs.length
def Off (F n : Nat) : Prop := F < n ∨ n + 4 < F
theorem sx_old {σ : Sto} {F i : Nat} {c d : Cell} {j : Sto} (h : σ[i]? = some d) (ne : i ≠ F) : (Sx σ F c j)[i]? = some d := by
  have hl := (List.getElem?_eq_some_iff.mp h).1
  rw [List.getElem?_append_left (by simpa using hl), List.getElem?_set_ne (Ne.symm ne)]
  exact h
theorem WdA.sx {σ : Sto} {F n : Nat} {c : Cell} {j : Sto} {cs : List Ch} (w : WdA σ n cs) (o : Off F n) : WdA (Sx σ F c j) n cs := by
  unfold Off at o
  obtain ⟨kvs, h1, h2⟩ := w.a3
  obtain ⟨hs, g1, g2⟩ := w.a4
  exact ⟨sx_old w.w (by omega), sx_old w.a1 (by omega), sx_old w.a2 (by omega), ⟨kvs, sx_old h1 (by omega), h2⟩, ⟨hs, sx_old g1 (by omega), g2⟩⟩
section
variable {σ : Sto} {n : Nat} {cs : List Ch} {Q : QK} {m : Nm} {c : Ch}
theorem kc_w (n : Nat) (x : Str) : keyC (kvW n) (.str x) := .inl ⟨rfl, fun p hp => by
  simp only [kvW, List.mem_cons, List.not_mem_nil, or_false] at hp
  rcases hp with rfl | rfl | rfl | rfl <;> rfl⟩
theorem WdA.prs (w : WdA σ n cs) : prsOf σ (.ref n) = some (kvW n) := by simp only [prsOf, w.w]
theorem ix_ch (w : WdA σ n cs) (h : Q (.ref (n + 1)) σ) : ixW (.ref n) (.d (.str "changes")) σ Q := r_ixD w.prs (kc_w ..) (dget_pos rfl) h
theorem ix_kn (w : WdA σ n cs) (h : Q (.ref (n + 2)) σ) : ixW (.ref n) (.d (.str "knows")) σ Q := r_ixD w.prs (kc_w ..) (by rw [dget_neg (sne (by decide +kernel)), dget_pos rfl]) h
theorem ix_la (w : WdA σ n cs) (h : Q (.ref (n + 3)) σ) : ixW (.ref n) (.d (.str "last")) σ Q := r_ixD w.prs (kc_w ..) (by rw [dget_neg (sne (by decide +kernel)), dget_neg (sne (by decide +kernel)), dget_pos rfl]) h
theorem ix_ha (w : WdA σ n cs) (h : Q (.ref (n + 4)) σ) : ixW (.ref n) (.d (.str "hangs")) σ Q := r_ixD w.prs (kc_w ..) (by rw [dget_neg (sne (by decide +kernel)), dget_neg (sne (by decide +kernel)), dget_neg (sne (by decide +kernel)), dget_pos rfl]) h
theorem kc_nm {α : Type} {f : α → Nm} {g : α → W} (l : List α) (m : Nm) : keyC (l.map fun c => (nmD (f c), g c)) (nmD m) := .inr ⟨rfl, fun p hp => by
  obtain ⟨c, _, rfl⟩ := List.mem_map.mp hp
  rfl⟩
theorem ix_chN (w : WdA σ n cs) (hc : findC cs m = some c) (h : Q (.d (chD c)) σ) : ixW (.ref (n + 1)) (.d (nmD m)) σ Q :=
  r_ixD (kvs := kv1 cs) (by simp only [prsOf, w.a1]) (kc_nm cs m) (by rw [get_names, hc]; rfl) h
theorem ix_knN (w : WdA σ n cs) (hc : findC cs m = some c) (h : Q (.d (.list (c.kn.map nmD))) σ) : ixW (.ref (n + 2)) (.d (nmD m)) σ Q :=
  r_ixD (kvs := kv2 cs) (by simp only [prsOf, w.a2]) (kc_nm cs m) (by rw [get_names, hc]; rfl) h
end
theorem at0 {α : Type} {x : α} {l : List α} : atI (x :: l) 0 = some x := atI_nat (xs := x :: l) (j := 0) rfl
def kindN (cs : List Ch) (n : Nm) : Str := ((findC cs n).map fun c => kindS c.deed).getD Str.empty
theorem kindN_at {cs : List Ch} {n : Nm} {k : String} (h : n ∈ names cs) (e : kindN cs n = Str.ofString k) : kindAt cs n k := by
  obtain ⟨c, hc, _⟩ := findC_mem h
  refine ⟨c, hc, ?_⟩
  unfold kindN at e
  rw [hc] at e
  exact e
abbrev abcb : Str := Str.ofString "abcdefghijklmnopqrstuvwxyz "
theorem abcb_low : ∀ c ∈ abcb.cps.toList, (97 ≤ c ∧ c ≤ 122) ∨ c = 32 := by
  have h : (abcb.cps.toList.all fun c => (decide (97 ≤ c) && decide (c ≤ 122)) || decide (c = 32)) = true := by decide +kernel
  intro c hc
  have := List.all_eq_true.mp h c hc
  simpa using this
theorem abcb_asc : Asc 27 abcb := asc_of (by decide +kernel)
theorem abcb_len : (abcb.length : Int) = 27 := by decide +kernel
/-- a deed drawn -/
theorem Wrd.ok {z : Str} (w : Wrd z) : PyData.strOk z = true := strOk_of (List.all_eq_true.mpr fun c hc => decide_eq_true (by have := w.low c hc; omega))
theorem shNm {n : Nm} (h : Wrd n.2) : SeqAt.shaped (nmD n) = true := by
  show (PyData.canLay0 (nmD n) && decide (PyData.depth (nmD n) ≤ 64)) = true
  rw [Bool.and_eq_true]
  exact ⟨by simp [nmD, PyData.canLay0, PyData.canLayAll0, Wrd.ok h], by simp [nmD, PyData.depth, PyData.depthAll]⟩
theorem shNms0 : ∀ {l : List Nm}, (∀ n ∈ l, Wrd n.2) → PyData.canLayAll0 (l.map nmD) = true ∧ PyData.depthAll (l.map nmD) ≤ 1
  | [], _ => ⟨rfl, Nat.zero_le _⟩
  | n :: r, h => by
    obtain ⟨a, b⟩ := shNms0 (l := r) fun m hm => h m (List.mem_cons_of_mem _ hm)
    have hn := Wrd.ok (h n (by simp))
    have c1 : PyData.canLay0 (nmD n) = true := by simp [nmD, PyData.canLay0, PyData.canLayAll0, hn]
    have c2 : PyData.depth (nmD n) = 1 := by simp [nmD, PyData.depth, PyData.depthAll]
    refine ⟨by simp only [List.map_cons, PyData.canLayAll0, c1, a, Bool.and_self], ?_⟩
    simp only [List.map_cons, PyData.depthAll, c2]
    omega
theorem shNms {l : List Nm} (h : ∀ n ∈ l, Wrd n.2) : SeqAt.shaped (.list (l.map nmD)) = true := by
  obtain ⟨a, b⟩ := shNms0 h
  show (PyData.canLay0 (.list (l.map nmD)) && decide (PyData.depth (.list (l.map nmD)) ≤ 64)) = true
  rw [Bool.and_eq_true]
  exact ⟨by simp only [PyData.canLay0]; exact a, decide_eq_true (by simp only [PyData.depth]; omega)⟩
theorem eqvNilN (l : List Nm) : PyData.eqv (.list (l.map nmD)) (.list []) = decide (l = []) := by
  cases l with
  | nil => simp [PyData.eqv, PyData.eqvAll]
  | cons n r => simp [PyData.eqv, PyData.eqvAll]
def fDeed : AF := fun ws σ Q _ => ∃ F n cs base fl c, ws = [.ref F, .ref n, .d (.tuple (base.map nmD)), .d (.list (fl.map nmD))] ∧ σ[F]? = some c ∧ IsFeed c ∧ Off F n ∧ WdA σ n cs ∧ (∀ m ∈ fl, m ∈ names cs) ∧ (∀ m ∈ fl, Wrd m.2) ∧ fl.length ≤ 50 ∧
  ∀ deed c', DeedOk cs base fl deed → IsFeed c' → Q (.d (deedD deed)) (σ.set F c')
instance : MoF fDeed := ⟨fun k ⟨F, n, cs, base, fl, c, h1, h2, h3, h4, h5, h6, h7, h8, q⟩ => ⟨F, n, cs, base, fl, c, h1, h2, h3, h4, h5, h6, h7, h8, fun r c' a b => k _ _ (q r c' a b)⟩⟩
theorem kind_in {cs : List Ch} {fl : List Nm} (k : String) : ((fl.map fun m => PyData.str (kindN cs m)).any fun z => PyData.eqv z (.str (Str.ofString k))) = true → ∃ m ∈ fl, kindN cs m = Str.ofString k := by
  intro h
  obtain ⟨z, hz, e⟩ := List.any_eq_true.mp h
  obtain ⟨m, hm, rfl⟩ := List.mem_map.mp hz
  refine ⟨m, hm, ?_⟩
  have : PyData.eqv (.str (kindN cs m)) (.str (Str.ofString k)) = decide (kindN cs m = Str.ofString k) := by
    rw [Bool.eq_iff_iff]
    simp [PyData.eqv]
  rw [this] at e
  exact of_decide_eq_true e
theorem kind_asc (d : Deed) : Asc 6 (kindS d) := by cases d <;> exact asc_of (by decide +kernel)
theorem sh_strs {n : Nat} : ∀ {zs : List Str}, (∀ z ∈ zs, Asc n z) → PyData.canLayAll0 (zs.map .str) = true ∧ PyData.depthAll (zs.map .str) ≤ 1
  | [], _ => ⟨rfl, by simp [PyData.depthAll]⟩
  | z :: zs, h => by
    obtain ⟨h1, h2⟩ := sh_strs (zs := zs) fun z hz => h z (by simp [hz])
    refine ⟨?_, ?_⟩
    · rw [List.map_cons]
      simp only [PyData.canLayAll0, PyData.canLay0, h1, Bool.and_true]
      unfold PyData.strOk
      rw [← Array.all_toList]
      exact List.all_eq_true.mpr fun c hc => by have := (h z (by simp)).2 c hc; simp; omega
    · rw [List.map_cons]
      simp only [PyData.depthAll, PyData.depth]
      omega
theorem shaped_strs {n : Nat} {zs : List Str} (h : ∀ z ∈ zs, Asc n z) : SeqAt.shaped (.tuple (zs.map .str)) = true := by
  obtain ⟨h1, h2⟩ := sh_strs h
  show (PyData.canLay0 _ && decide (PyData.depth _ ≤ 64)) = true
  rw [Bool.and_eq_true]
  exact ⟨by simpa [PyData.canLay0] using h1, decide_eq_true (by simp only [PyData.depth]; omega)⟩
theorem deed_ok : ∀ ws σ Q X, fDeed ws σ Q X → aFn 11 (pDeed fDraw) ws σ (fun w σ' => Told σ.length σ σ' w Q) X := by
  rintro ws σ Q X ⟨F, n, cs, base, fl, c, rfl, hc, hf, of, wd, hfl, hfw, fl50, q⟩
  have hF : F < σ.length := (List.getElem?_eq_some_iff.mp hc).1
  generalize hQ : (fun w σ' => Told σ.length σ σ' w Q) = Q'
  have key : ∀ {deed : Deed} {c' : Cell} {j : Sto}, DeedOk cs base fl deed → IsFeed c' → Q' (.d (deedD deed)) (Sx σ F c' j) := fun h1 h2 => by rw [← hQ]; exact told_x h2 (q _ _ h1 h2)
  rw [show aFn 11 (pDeed fDraw) [.ref F, .ref n, .d (.tuple (base.map nmD)), .d (.list (fl.map nmD))] σ Q' X = aFn 11 (pDeed fDraw) [.ref F, .ref n, .d (.tuple (base.map nmD)), .d (.list (fl.map nmD))] (Sx σ F c []) Q' X by rw [← sx_start hc]]
  and_intros
  refine r_draw hF hf (by decide) (by decide) fun r1 c1 r10 r11 hf1 => ?_
  and_intros
  refine r_rng (by omega) (by omega) ?_
  -- the letters
  refine lc_fz (fun i acc s => ∃ c, s = Sx σ F c [] ∧ IsFeed c ∧ ∃ l : List Nat, acc = (l.map one).map .str ∧ l.length = i ∧ ∀ x ∈ l, (97 ≤ x ∧ x ≤ 122) ∨ x = 32) ⟨c1, rfl, hf1, [], rfl, rfl, fun z hz => by cases hz⟩ (fun i acc s ⟨c, h, hf, _⟩ => by rw [h]; exact sx_sh hF hf) (fun i w acc s Rest hw h k => ?_) fun acc s h => ?_
  · obtain ⟨c, rfl, hf, l, rfl, hll, hla⟩ := h
    obtain ⟨rfl, hi⟩ := rng_at hw
    refine ⟨True.intro, ?_⟩
    and_intros
    rw [sx_app]
    refine r_draw hF hf (by decide) (by decide) fun r c' r0 r1 hf' => ?_
    and_intros
    refine r_sign abcb_asc (by decide) r0 (by rw [abcb_len]; exact r1) fun sg hsg => ?_
    rw [← sx_app]
    refine tg_app (by simp) (small (by rw [List.length_map, List.length_map]; omega)) (k _ _ ⟨c', rfl, hf', l ++ [sg], by simp, by rw [List.length_append, hll]; rfl, fun z hz => ?_⟩)
    rcases List.mem_append.mp hz with h | h
    · exact hla z h
    · rw [List.mem_singleton.mp h]; exact abcb_low sg hsg
  obtain ⟨c3, rfl, hf3, l, rfl, hll, hla⟩ := h
  rw [rng_len] at hll
  refine ⟨True.intro, ?_⟩
  and_intros
  refine r_join ?_ ?_
  · have h1 : ((l.map one).map (·.length)).sum ≤ (l.map one).length := sum_le_len fun y hy => by
      obtain ⟨c, _, rfl⟩ := List.mem_map.mp hy
      exact Nat.le_refl 1
    have h2 : (Str.ofString "").length = 0 := by decide +kernel
    rw [List.length_map] at h1
    rw [h2, Nat.mul_zero]
    omega
  have ejoin : PySem.Txt.join (Str.ofString "") (l.map one) = Str.join Str.empty (l.map one) := by
    rw [TL.join_eq]
    have : Str.ofString "" = Str.empty := by decide +kernel
    rw [this]
  rw [ejoin]
  have ez : (Str.join Str.empty (l.map one)).cps.toList = l := join_ones l
  generalize Str.join Str.empty (l.map one) = st at ez ⊢
  have ltr : Ltr st := ⟨by rw [str_len, ez]; omega, by rw [str_len, ez]; omega, by rw [ez]; exact hla⟩
  clear ejoin ez hll hla
  and_intros
  refine r_draw hF hf3 (by decide) (by decide) fun r4 c4 r40 r41 hf4 => ?_
  and_intros
  -- the sorts
  refine lc_fz (fun i acc s => s = Sx σ F c4 [] ∧ acc = (fl.take i).map fun m => .str (kindN cs m)) ⟨rfl, by simp⟩ (fun i acc s h => by rw [h.1]; exact sx_sh hF hf4) (fun i w acc s Rest hw h k => ?_) fun acc s h => ?_
  · obtain ⟨rfl, rfl⟩ := h
    rw [List.getElem?_map, List.getElem?_map] at hw
    obtain ⟨d, hd, rfl⟩ := Option.map_eq_some_iff.mp hw
    obtain ⟨m, hm, rfl⟩ := Option.map_eq_some_iff.mp hd
    obtain ⟨cm, hcm, _, _⟩ := findC_mem (hfl m (List.mem_of_getElem? hm))
    have wd4 : WdA (Sx σ F c4 [] ++ [.lst (((fl.take i).map fun m => PyData.str (kindN cs m)).map .d)]) n cs := by rw [sx_app]; exact wd.sx of
    refine ⟨True.intro, ?_⟩
    and_intros
    refine ix_ch wd4 ?_
    and_intros
    refine ix_chN wd4 hcm ?_
    and_intros
    refine r_ixT (x := deedD cm.deed) rfl ?_
    and_intros
    refine r_ixT (x := .str (kindS cm.deed)) at0 ?_
    refine tg_app (by simp) (small (by rw [List.length_map, List.length_take]; omega)) (k _ _ ⟨rfl, ?_⟩)
    have ek : kindN cs m = kindS cm.deed := by unfold kindN; rw [hcm]; rfl
    rw [List.take_add_one, hm]
    simp [ek]
  obtain ⟨rfl, rfl⟩ := h
  rw [List.length_map, List.length_map, List.take_length]
  refine ⟨True.intro, ?_⟩
  and_intros
  refine r_rng (by rw [List.length_map]; omega) (by rw [List.length_map]; omega) ?_
  -- the hangs
  refine lc_fz (fun i acc s => s = Sx σ F c4 [] ∧ ∃ hs : List Nm, acc = hs.map nmD ∧ hs.length ≤ i ∧ ∀ m ∈ hs, m ∈ fl ∧ kindAt cs m "hang") ⟨rfl, [], rfl, Nat.le_refl _, fun m hm => by cases hm⟩ (fun i acc s h => by rw [h.1]; exact sx_sh hF hf4) (fun i w acc s Rest hw h k => ?_) fun acc s h => ?_
  · obtain ⟨rfl, hs, rfl, hsl, hsa⟩ := h
    obtain ⟨rfl, hi⟩ := rng_at hw
    have hi' : i < fl.length := by simpa using hi
    have hm : fl[i]? = some fl[i] := List.getElem?_eq_getElem hi'
    have ati : ∀ {α : Type} (f : Nm → α), atI (fl.map f) (0 + (i : Int)) = some (f fl[i]) := fun f => by
      rw [Int.zero_add]
      exact atI_nat (by rw [List.getElem?_map, hm]; rfl)
    refine ⟨True.intro, ?_⟩
    and_intros
    refine r_ixL (ati fun m => PyData.str (kindN cs m)) ?_
    and_intros
    refine r_ite (fun hk => ?_) fun hk => ?_
    · and_intros
      refine r_ixL (ati nmD) ?_
      refine tg_app (by simp) (small (by rw [List.length_map]; omega)) (k _ _ ⟨rfl, hs ++ [fl[i]], by rw [List.map_append]; rfl, by rw [List.length_append]; simp; omega, fun m hm' => ?_⟩)
      rcases List.mem_append.mp hm' with h | h
      · exact hsa m h
      · rw [List.mem_singleton.mp h]
        have hin : fl[i] ∈ fl := List.getElem_mem _
        exact ⟨hin, kindN_at (hfl _ hin) hk⟩
    · exact k _ _ ⟨rfl, hs, rfl, by omega, hsa⟩
  obtain ⟨rfl, hs, rfl, hsl, hsa⟩ := h
  rw [rng_len] at hsl
  have hsl' : hs.length ≤ 50 := by
    have : (((fl.map nmD).length : Nat) : Int).toNat = fl.length := by simp
    omega
  have wd4 : WdA (Sx σ F c4 []) n cs := wd.sx of
  refine ⟨True.intro, ?_⟩
  with_reducible refine r_agN ?_
  with_reducible refine r_seq ?_
  with_reducible refine r_ifS ?_
  refine cutT (fun b s => s = Sx σ F c4 [] ∧ (b = true → 1 < base.length)) ?_ fun b s hb => ?_
  · and_intros
    refine r_ite (fun _ => ?_) fun _ => ?_
    · and_intros
      exact ⟨rfl, fun h => by have := of_decide_eq_true h; rw [List.length_map] at this; omega⟩
    · exact ⟨rfl, fun h => by cases h⟩
  obtain ⟨rfl, hb⟩ := hb
  refine r_iteB (fun hbt => ?_) fun _ => ?_
  · and_intros
    refine r_pures rfl (by show 1 ≤ sizeLine; decide) ?_
    and_intros
    exact key (deed := .join) (hb hbt) hf4
  clear hb
  with_reducible refine r_next ?_
  with_reducible refine r_seq ?_
  with_reducible refine r_ifS ?_
  obtain ⟨hgs, hg1, hg2⟩ := wd4.a4
  refine cutT (fun b s => s = Sx σ F c4 [] ∧ (b = true → ∃ m ∈ fl, kindAt cs m "put")) ?_ fun b s hb => ?_
  · and_intros
    refine r_ite (fun _ => ?_) fun _ => ?_
    · and_intros
      refine r_inL (by decide +kernel) ?_ ?_
      · rw [show (fl.map fun m => PyData.str (kindN cs m)) = (fl.map fun m => kindN cs m).map .str by rw [List.map_map]; rfl]
        refine shaped_strs (n := 6) fun z hz => ?_
        obtain ⟨m, hm, rfl⟩ := List.mem_map.mp hz
        obtain ⟨cm, hcm, _, _⟩ := findC_mem (hfl m hm)
        unfold kindN
        rw [hcm]
        exact kind_asc _
      and_intros
      refine r_iteB (fun hp => ?_) fun hp => ?_
      · and_intros
        refine ix_ha wd4 ?_
        and_intros
        refine r_lenC hg1 ?_
        and_intros
        refine ⟨rfl, fun _ => ?_⟩
        obtain ⟨m, hm, e⟩ := kind_in "put" hp
        exact ⟨m, hm, kindN_at (hfl m hm) e⟩
      · exact ⟨rfl, fun h => by cases h⟩
    · exact ⟨rfl, fun h => by cases h⟩
  obtain ⟨rfl, hb⟩ := hb
  refine r_iteB (fun hbt => ?_) fun _ => ?_
  · and_intros
    refine r_pures rfl (by show 2 ≤ sizeLine; decide) ?_
    and_intros
    refine r_draw hF hf4 (by decide) (by decide) fun r5 c5 r50 r51 hf5 => ?_
    have : r5 = 0 ∨ r5 = 1 := by omega
    rcases this with rfl | rfl
    · refine r_ixL (x := .str (Str.ofString "shut")) at0 ?_
      and_intros
      refine r_pures rfl (by show 5 ≤ sizeLine; decide) ?_
      exact key (deed := .hang false st) ⟨ltr, hb hbt⟩ hf5
    · refine r_ixL (x := .str (Str.ofString "wide")) rfl ?_
      and_intros
      refine r_pures rfl (by show 5 ≤ sizeLine; decide) ?_
      exact key (deed := .hang true st) ⟨ltr, hb hbt⟩ hf5
  clear hb
  with_reducible refine r_next ?_
  with_reducible refine r_seq ?_
  with_reducible refine r_ifS ?_
  refine cutT (fun b s => s = Sx σ F c4 [] ∧ (b = true → hs ≠ [])) ?_ fun b s hb => ?_
  · and_intros
    refine r_ite (fun _ => ?_) fun _ => ?_
    · and_intros
      refine r_pures rfl (Nat.zero_le _) ?_
      and_intros
      refine ⟨⟨shNms fun m hm => hfw m (hsa m hm).1, by decide +kernel⟩, ?_⟩
      show tstB _ (.d (.bool (!PyData.eqv (.list (hs.map nmD)) (.list [])))) _
      rw [eqvNilN]
      and_intros
      exact ⟨rfl, fun h => by simpa using h⟩
    · exact ⟨rfl, fun h => by cases h⟩
  obtain ⟨rfl, hb⟩ := hb
  refine r_iteB (fun hbt => ?_) fun _ => ?_
  · have hne := hb hbt
    have hpos : 0 < hs.length := List.length_pos_iff.mpr hne
    and_intros
    refine r_draw hF hf4 (by rw [List.length_map]; omega) (by rw [List.length_map]; omega) fun r5 c5 r50 r51 hf5 => ?_
    rw [List.length_map] at r51
    obtain ⟨j, rfl⟩ : ∃ j : Nat, r5 = (j : Int) := ⟨r5.toNat, (Int.toNat_of_nonneg r50).symm⟩
    have hj : j < hs.length := by omega
    refine r_ixL (x := nmD hs[j]) (atI_nat (by rw [List.getElem?_map, List.getElem?_eq_getElem hj]; rfl)) ?_
    and_intros
    refine r_pures rfl (by show 3 ≤ sizeLine; decide) ?_
    exact key (deed := .answer hs[j] st) ⟨ltr, hsa _ (List.getElem_mem _)⟩ hf5
  · and_intros
    refine r_pures rfl (by show 3 ≤ sizeLine; decide) ?_
    exact key (deed := .put st) ltr hf4
end Lw

set_option maxHeartbeats 4000000
/-! LwD: one step of a world. -/
namespace Lw
open PySem PySem.Spec PyProof.Rows L2 Mw Aw
abbrev kvY (l : List Nm) : List (PyData × W) := l.map fun m => (nmD m, .d (.bool true))
theorem keys_Y (l : List Nm) : keys (kvY l) = l.map nmD := by simp [keys, kvY]
theorem get_Y (m : Nm) : ∀ l : List Nm, dget (kvY l) (nmD m) = if m ∈ l then some (.d (.bool true)) else none
  | [] => rfl
  | x :: l => by
    rw [show kvY (x :: l) = (nmD x, .d (.bool true)) :: kvY l from rfl]
    by_cases h : x = m
    · rw [dget_pos (by rw [h]), if_pos (by simp [h])]
    · rw [dget_neg (fun z => h (nmD_inj z)), get_Y m l]
      simp [Ne.symm h]
theorem put_Y (l : List Nm) (m : Nm) : dput (kvY l) (nmD m) (.d (.bool true)) = kvY (ins l m) := by
  unfold ins
  by_cases h : m ∈ l
  · rw [dput_old (w := .d (.bool true)) (by rw [get_Y, if_pos h]), if_pos h]
    unfold kvY
    rw [List.map_map]
    refine List.map_congr_left fun x _ => ?_
    simp only [Function.comp]
    split <;> rfl
  · rw [dput_new (by rw [get_Y, if_neg h]), if_neg h]
    simp [kvY]
theorem kc_Y (l : List Nm) (m : Nm) : keyC (kvY l) (nmD m) := kc_nm (f := id) (g := fun _ => .d (.bool true)) l m
section
variable {σ : Sto} {F : Nat} {c d : Cell} {j : Sto} {k : Nat}
theorem sx_j : (Sx σ F c j)[σ.length + k]? = j[k]? := by rw [List.getElem?_append_right (by simp)]; simp
theorem sx_j0 : (Sx σ F c j)[σ.length]? = j[0]? := sx_j (k := 0)
theorem sx_sj : (Sx σ F c j).set (σ.length + k) d = Sx σ F c (j.set k d) := by rw [List.set_append_right _ _ (by simp)]; simp
theorem sx_sj0 : (Sx σ F c j).set σ.length d = Sx σ F c (j.set 0 d) := sx_sj (k := 0)
end
theorem r_srt {σ : Sto} {i : Nat} {kvs : List (PyData × W)} {ns : List Nm} {Q : QK} (h : σ[i]? = some (.dct true kvs)) (hk : keys kvs = ns.map nmD) (q : Q (.d (.list ((srt ns).map nmD))) σ) : srtW [.ref i] σ Q := ⟨i, kvs, ns, rfl, h, hk, q⟩
theorem keys_1 (cs : List Ch) : keys (kv1 cs) = (names cs).map nmD := by simp [keys, kv1, names]
def mxD (Q : QK) (ws zs : List W) (σ : Sto) : Prop := ∃ w ns d, ws = [w] ∧ zs = [.d (.int d)] ∧ dat σ w = some (.list (ns.map .int)) ∧ Q (.d (.int (maxZ d ns))) σ
theorem r_maxD {fr fk : AA} {e : Ev} {σ : Sto} {Q : QK} {X : XQ} (h : fr e σ (fun ws σ1 => fk e σ1 (fun zs σ2 => mxD Q ws zs σ2) X) X) : aMaxD fr fk e σ Q X := h
theorem r_mx {σ : Sto} {Q : QK} {ns : List Int} {d : Int} (q : Q (.d (.int (maxZ d ns))) σ) : mxD Q [.d (.list (ns.map .int))] [.d (.int d)] σ := ⟨_, ns, d, rfl, rfl, rfl, q⟩
theorem r_itC {R : List W → (Sto → Prop) → Sto → Prop} {σ : Sto} {i : Nat} {ws : List W} (h : σ[i]? = some (.lst ws)) (q : R ws (fun σ' => σ'[i]? = some (.lst ws)) σ) : itW σ R (.ref i) := .inl ⟨ws, h, q⟩
theorem byS {Fa P : Sto → Prop} {G : Prop} (main : (∀ s, Fa s → P s) → G) (rest : ∀ s, Fa s → P s) : G := main rest
/-- the cells of a world while it is written -/
structure Cl (σ : Sto) (F n : Nat) (s : Sto) (c k0 k1 k2 k3 k4 : Cell) : Prop where
  len : σ.length ≤ s.length
  f : s[F]? = some c
  h0 : s[n]? = some k0
  h1 : s[n + 1]? = some k1
  h2 : s[n + 2]? = some k2
  h3 : s[n + 3]? = some k3
  h4 : s[n + 4]? = some k4
  old : ∀ i, i < σ.length → i ≠ F → Off i n → s[i]? = σ[i]?
theorem set_at {s : Sto} {i : Nat} {d e : Cell} (h : s[i]? = some d) : (s.set i e)[i]? = some e := List.getElem?_set_self (List.getElem?_eq_some_iff.mp h).1
theorem set_ne {s : Sto} {i l : Nat} {e : Cell} (h : i ≠ l) : (s.set i e)[l]? = s[l]? := List.getElem?_set_ne h
section
variable {σ : Sto} {F n : Nat} {s : Sto} {c k0 k1 k2 k3 k4 d : Cell}
theorem Cl.s1 (a : Cl σ F n s c k0 k1 k2 k3 k4) (o : Off F n) : Cl σ F n (s.set (n + 1) d) c k0 d k2 k3 k4 := by
  unfold Off at o
  exact ⟨by simpa using a.len, by rw [set_ne (by omega)]; exact a.f, by rw [set_ne (by omega)]; exact a.h0, set_at a.h1, by rw [set_ne (by omega)]; exact a.h2, by rw [set_ne (by omega)]; exact a.h3, by rw [set_ne (by omega)]; exact a.h4, fun i h1 h2 h3 => by unfold Off at h3; rw [set_ne (by omega)]; exact a.old i h1 h2 h3⟩
theorem Cl.s2 (a : Cl σ F n s c k0 k1 k2 k3 k4) (o : Off F n) : Cl σ F n (s.set (n + 2) d) c k0 k1 d k3 k4 := by
  unfold Off at o
  exact ⟨by simpa using a.len, by rw [set_ne (by omega)]; exact a.f, by rw [set_ne (by omega)]; exact a.h0, by rw [set_ne (by omega)]; exact a.h1, set_at a.h2, by rw [set_ne (by omega)]; exact a.h3, by rw [set_ne (by omega)]; exact a.h4, fun i h1 h2 h3 => by unfold Off at h3; rw [set_ne (by omega)]; exact a.old i h1 h2 h3⟩
theorem Cl.s3 (a : Cl σ F n s c k0 k1 k2 k3 k4) (o : Off F n) : Cl σ F n (s.set (n + 3) d) c k0 k1 k2 d k4 := by
  unfold Off at o
  exact ⟨by simpa using a.len, by rw [set_ne (by omega)]; exact a.f, by rw [set_ne (by omega)]; exact a.h0, by rw [set_ne (by omega)]; exact a.h1, by rw [set_ne (by omega)]; exact a.h2, set_at a.h3, by rw [set_ne (by omega)]; exact a.h4, fun i h1 h2 h3 => by unfold Off at h3; rw [set_ne (by omega)]; exact a.old i h1 h2 h3⟩
theorem Cl.s4 (a : Cl σ F n s c k0 k1 k2 k3 k4) (o : Off F n) : Cl σ F n (s.set (n + 4) d) c k0 k1 k2 k3 d := by
  unfold Off at o
  exact ⟨by simpa using a.len, by rw [set_ne (by omega)]; exact a.f, by rw [set_ne (by omega)]; exact a.h0, by rw [set_ne (by omega)]; exact a.h1, by rw [set_ne (by omega)]; exact a.h2, by rw [set_ne (by omega)]; exact a.h3, set_at a.h4, fun i h1 h2 h3 => by unfold Off at h3; rw [set_ne (by omega)]; exact a.old i h1 h2 h3⟩
theorem Cl.sF (a : Cl σ F n s c k0 k1 k2 k3 k4) (o : Off F n) : Cl σ F n (s.set F d) d k0 k1 k2 k3 k4 := by
  unfold Off at o
  exact ⟨by simpa using a.len, set_at a.f, by rw [set_ne (by omega)]; exact a.h0, by rw [set_ne (by omega)]; exact a.h1, by rw [set_ne (by omega)]; exact a.h2, by rw [set_ne (by omega)]; exact a.h3, by rw [set_ne (by omega)]; exact a.h4, fun i h1 h2 h3 => by unfold Off at h3; rw [set_ne (by omega)]; exact a.old i h1 h2 h3⟩
end
def fStep : AF := fun ws σ Q _ => ∃ F n cs zs c, ws = [.ref F, .ref n, .d (ssD zs)] ∧ σ[F]? = some c ∧ IsFeed c ∧ Off F n ∧ WdA σ n cs ∧ 0 < zs.length ∧ zs.length ≤ 6 ∧ (∀ z ∈ zs, Wrd z) ∧ Wr zs cs ∧ cs.length ≤ 49 ∧
  ∀ ch c' σ', StepOk zs cs ch → IsFeed c' → σ'[F]? = some c' → WdA σ' n (cs ++ [ch]) → σ'.length = σ.length → (∀ i, i ≠ F → Off i n → σ'[i]? = σ[i]?) → Q (.d .none) σ'
instance : MoF fStep := ⟨fun k ⟨F, n, cs, zs, c, h1, h2, h3, h4, h5, h6, h7, h8, h9, h10, q⟩ => ⟨F, n, cs, zs, c, h1, h2, h3, h4, h5, h6, h7, h8, h9, h10, fun a1 a2 a3 a4 a5 a6 a7 a8 a9 => k _ _ (q a1 a2 a3 a4 a5 a6 a7 a8 a9)⟩⟩
/-- a written world is told -/
theorem told_w {σ : Sto} {F n : Nat} {s : Sto} {c : Cell} {cs : List Ch} {kvs : List (PyData × W)} {hs : List Nm} {Q : QK} (wd : n + 4 < σ.length) (hF : F < σ.length) (hf : IsFeed c) (a : Cl σ F n s c (.dct false (kvW n)) (.dct true (kv1 cs)) (.dct true (kv2 cs)) (.dct false kvs) (.lst (hs.map fun x => .d (nmD x))))
    (h3 : ∀ p ∈ kvs, isK p.1 = true ∧ ∃ x, p.2 = .d x) (h3l : kvs.length ≤ cs.length) (h3g : ∀ br, dget kvs (.str br) = (lastOf br cs).map fun x => .d (nmD x)) (hl : hs.length ≤ cs.length)
    (q : ∀ σ', σ'[F]? = some c → WdA σ' n cs → σ'.length = σ.length → (∀ i, i ≠ F → Off i n → σ'[i]? = σ[i]?) → Q (.d .none) σ') : Told σ.length σ s (.d .none) Q := by
  have tk : ∀ {i : Nat}, i < σ.length → (s.take σ.length)[i]? = s[i]? := fun h => List.getElem?_take_of_lt h
  refine ⟨⟨a.len, fun i d hi hd => ?_⟩, .inl ⟨.none, .d _, q _ (by rw [tk hF]; exact a.f) ⟨by rw [tk (by omega)]; exact a.h0, by rw [tk (by omega)]; exact a.h1, by rw [tk (by omega)]; exact a.h2, ⟨kvs, by rw [tk (by omega)]; exact a.h3, h3, h3l, h3g⟩, ⟨hs, by rw [tk (by omega)]; exact a.h4, hl⟩⟩ (by rw [List.length_take]; have := a.len; omega) fun i h1 h2 => ?_⟩⟩
  · by_cases e : i = F
    · subst e
      rw [a.f] at hd; cases hd
      exact .inr (hf.clo _)
    by_cases o : Off i n
    · exact .inl (by rw [← a.old i hi e o]; exact hd)
    have : i = n ∨ i = n + 1 ∨ i = n + 2 ∨ i = n + 3 ∨ i = n + 4 := by unfold Off at o; omega
    refine .inr ?_
    rcases this with rfl | rfl | rfl | rfl | rfl
    · rw [a.h0] at hd; cases hd
      intro p hp
      simp only [kvW, List.mem_cons, List.not_mem_nil, or_false] at hp
      rcases hp with rfl | rfl | rfl | rfl <;> (show _ < _; omega)
    · rw [a.h1] at hd; cases hd
      intro p hp
      obtain ⟨x, _, rfl⟩ := List.mem_map.mp hp
      exact True.intro
    · rw [a.h2] at hd; cases hd
      intro p hp
      obtain ⟨x, _, rfl⟩ := List.mem_map.mp hp
      exact True.intro
    · rw [a.h3] at hd; cases hd
      intro p hp
      obtain ⟨x, e⟩ := (h3 p hp).2
      rw [e]
      exact True.intro
    · rw [a.h4] at hd; cases hd
      intro p hp
      obtain ⟨x, _, rfl⟩ := List.mem_map.mp hp
      exact True.intro
  · by_cases hi : i < σ.length
    · rw [tk hi]; exact a.old i hi h1 h2
    · rw [List.getElem?_eq_none (by rw [List.length_take]; omega), List.getElem?_eq_none (by omega)]
end Lw

set_option maxHeartbeats 4000000
/-! LwE: one step of a world is what it should be. -/
namespace Lw
open PySem PySem.Spec PyProof.Rows L2 Mw Aw
abbrev nmW (l : List Nm) : List W := l.map fun x => .d (nmD x)
theorem take_snoc {α : Type} {l : List α} {i : Nat} {x : α} (h : l[i]? = some x) : l.take (i + 1) = l.take i ++ [x] := by rw [List.take_add_one, h]; rfl
theorem knOf_eq {cs : List Ch} {g : Nm} {ch : Ch} (h : findC cs g = some ch) : knOf cs g = ch.kn := by unfold knOf; rw [h]; rfl
theorem gath50 {cs : List Ch} (h : cs.length ≤ 49) {l : List Nm} (hl : ∀ n ∈ l, n ∈ names cs) : (gather l).length ≤ 49 := by
  have := nodup_len (gather_nodup l) (m := names cs) fun n hn => hl n (mem_gather.mp hn)
  rw [List.length_map] at this
  omega
theorem dput_mem {kvs : List (PyData × W)} {k : PyData} {v : W} {p : PyData × W} (h : p ∈ dput kvs k v) : p ∈ kvs ∨ (p.1 = k ∧ p.2 = v) := by
  unfold dput at h
  split at h
  · obtain ⟨x, hx, e⟩ := List.mem_map.mp h
    split at e
    · rename_i hk; subst e; exact .inr ⟨hk, rfl⟩
    · subst e; exact .inl hx
  · rcases List.mem_append.mp h with h | h
    · exact .inl h
    · rw [List.mem_singleton.mp h]; exact .inr ⟨rfl, rfl⟩
theorem dput_len (kvs : List (PyData × W)) (k : PyData) (v : W) : (dput kvs k v).length ≤ kvs.length + 1 := by
  unfold dput
  split
  · simp
  · simp
section
variable {s : Sto} {n : Nat} {Q : QK}
theorem ix_w1 (h : s[n]? = some (.dct false (kvW n))) (q : Q (.ref (n + 1)) s) : ixW (.ref n) (.d (.str "changes")) s Q := r_ixD (kvs := kvW n) (by simp only [prsOf, h]) (kc_w ..) (dget_pos rfl) q
theorem ix_w2 (h : s[n]? = some (.dct false (kvW n))) (q : Q (.ref (n + 2)) s) : ixW (.ref n) (.d (.str "knows")) s Q := r_ixD (kvs := kvW n) (by simp only [prsOf, h]) (kc_w ..) (by rw [dget_neg (sne (by decide +kernel)), dget_pos rfl]) q
theorem ix_w3 (h : s[n]? = some (.dct false (kvW n))) (q : Q (.ref (n + 3)) s) : ixW (.ref n) (.d (.str "last")) s Q := r_ixD (kvs := kvW n) (by simp only [prsOf, h]) (kc_w ..) (by rw [dget_neg (sne (by decide +kernel)), dget_neg (sne (by decide +kernel)), dget_pos rfl]) q
theorem ix_w4 (h : s[n]? = some (.dct false (kvW n))) (q : Q (.ref (n + 4)) s) : ixW (.ref n) (.d (.str "hangs")) s Q := r_ixD (kvs := kvW n) (by simp only [prsOf, h]) (kc_w ..) (by rw [dget_neg (sne (by decide +kernel)), dget_neg (sne (by decide +kernel)), dget_neg (sne (by decide +kernel)), dget_pos rfl]) q
end
theorem find_none {cs : List Ch} {m : Nm} (h : m ∉ names cs) : findC cs m = none := by
  unfold findC
  rw [List.find?_eq_none]
  intro c hc e
  exact h (List.mem_map.mpr ⟨c, hc, of_decide_eq_true e⟩)
theorem step_ok : ∀ ws σ Q X, fStep ws σ Q X → aFn 14 (pStep fDraw fDeed) ws σ (fun w σ' => Told σ.length σ σ' w Q) X := by
  rintro ws σ Q X ⟨F, n, cs, zs, c, rfl, hc, hf, of, wd, z0, z6, wrd, wr, c49, q⟩
  have hF : F < σ.length := (List.getElem?_eq_some_iff.mp hc).1
  have hn4 : n + 4 < σ.length := by obtain ⟨hs, g1, _⟩ := wd.a4; exact (List.getElem?_eq_some_iff.mp g1).1
  have nmw : ∀ m ∈ names cs, Wrd m.2 := fun m hm => wrd _ (br_in wr m hm)
  generalize hQ : (fun w σ' => Told σ.length σ σ' w Q) = Q'
  rw [show aFn 14 (pStep fDraw fDeed) [.ref F, .ref n, .d (ssD zs)] σ Q' X = aFn 14 (pStep fDraw fDeed) [.ref F, .ref n, .d (ssD zs)] (Sx σ F c []) Q' X by rw [← sx_start hc]]
  and_intros
  refine r_draw hF hf (by rw [List.length_map]; omega) (by rw [List.length_map]; omega) fun r1 c1 r10 r11 hf1 => ?_
  rw [List.length_map] at r11
  obtain ⟨j1, rfl⟩ : ∃ j : Nat, r1 = (j : Int) := ⟨r1.toNat, (Int.toNat_of_nonneg r10).symm⟩
  have hj1 : j1 < zs.length := by omega
  refine r_ixL (x := .str zs[j1]) (atI_nat (by rw [List.getElem?_map, List.getElem?_eq_getElem hj1]; rfl)) ?_
  have brin : zs[j1] ∈ zs := List.getElem_mem _
  generalize zs[j1] = br at brin ⊢
  clear r10 r11 hj1
  have wd1 : WdA (Sx σ F c1 []) n cs := wd.sx of
  and_intros
  refine ix_ch wd1 ?_
  and_intros
  refine r_srt wd1.a1 (keys_1 cs) ?_
  with_reducible refine r_agN ?_
  with_reducible refine r_seq ?_
  with_reducible refine r_asg ?_
  -- the grounds
  refine cutE (fun w s => ∃ gs : List Nm, w = .ref σ.length ∧ s = Sx σ F c1 [.lst (nmW gs)] ∧ gs.length ≤ 1 ∧ (∀ g ∈ gs, g ∈ names cs) ∧ ∀ m, lastOf br cs = some m → m ∈ gs) ?_ fun w s hw => ?_
  · and_intros
    refine ix_la wd1 ?_
    obtain ⟨kvs, h3, h3k, h3l, h3g⟩ := wd1.a3
    have hp3 : prsOf (Sx σ F c1 []) (.ref (n + 3)) = some kvs := by simp only [prsOf, h3]
    have hk3 : keyC kvs (.str br) := .inl ⟨rfl, fun p hp => (h3k p hp).1⟩
    refine r_inD hp3 hk3 ?_
    rw [h3g]
    and_intros
    refine r_iteB (fun hp => ?_) fun hp => ?_
    · have hp' : (lastOf br cs).isSome = true := by simpa using hp
      obtain ⟨m, hm⟩ := Option.isSome_iff_exists.mp hp'
      and_intros
      refine ix_la wd1 ?_
      and_intros
      refine r_ixD hp3 hk3 (w := .d (nmD m)) (by rw [h3g, hm]; rfl) ?_
      and_intros
      refine ⟨by show 1 ≤ sizeLine; decide, [m], by rw [sx_len]; rfl, sx_app, Nat.le_refl _, fun g hg => ?_, fun m' hm' => ?_⟩
      · rw [List.mem_singleton.mp hg]; exact last_in br cs hm
      · rw [hm] at hm'; cases hm'; simp
    · have hp' : (lastOf br cs).isSome = false := by simpa using hp
      and_intros
      refine ⟨Nat.zero_le _, [], by rw [sx_len]; rfl, sx_app, Nat.zero_le _, (fun g hg => by cases hg), fun m' hm' => ?_⟩
      rw [hm'] at hp'; cases hp'
  obtain ⟨gs0, rfl, rfl, gl0, gsub0, glast0⟩ := hw
  with_reducible refine r_agN ?_
  with_reducible refine r_seq ?_
  -- perhaps another one
  apply byS (Fa := fun s => ∃ (gs : List Nm) (c2 : Cell), s = Sx σ F c2 [.lst (nmW gs)] ∧ IsFeed c2 ∧ gs.length ≤ 2 ∧ (∀ g ∈ gs, g ∈ names cs) ∧ ∀ m, lastOf br cs = some m → m ∈ gs)
  · intro rest
    with_reducible refine r_ifS ?_
    refine cutT (fun b s => ∃ c2, s = Sx σ F c2 [.lst (nmW gs0)] ∧ IsFeed c2 ∧ (b = true → srt (names cs) ≠ [])) ?_ fun b s hb => ?_
    · and_intros
      refine r_pures rfl (Nat.zero_le _) ?_
      and_intros
      refine ⟨⟨shNms fun m hm => nmw m (mem_srt.mp hm), by decide +kernel⟩, ?_⟩
      show tstB _ (.d (.bool (!PyData.eqv (.list ((srt (names cs)).map nmD)) (.list [])))) _
      rw [eqvNilN]
      and_intros
      refine r_iteN (fun hne => ?_) fun he => ?_
      · and_intros
        refine r_draw hF hf1 (by decide) (by decide) fun r c2 _ _ hf2 => ?_
        and_intros
        exact ⟨c2, rfl, hf2, fun _ => hne⟩
      · exact ⟨c1, rfl, hf1, fun h => by cases h⟩
    obtain ⟨c2, rfl, hf2, hb⟩ := hb
    refine r_iteB (fun hbt => ?_) fun _ => ?_
    · have hne := hb hbt
      have npos : 0 < (srt (names cs)).length := List.length_pos_iff.mpr hne
      have n50 : (srt (names cs)).length ≤ 49 := by rw [srt_len, List.length_map]; exact c49
      and_intros
      refine r_tyC (ws := nmW gs0) sx_j0 ?_
      and_intros
      refine r_draw hF hf2 (by rw [List.length_map]; omega) (by rw [List.length_map]; omega) fun r c3 r0 r1 hf3 => ?_
      rw [List.length_map] at r1
      obtain ⟨j, rfl⟩ : ∃ j : Nat, r = (j : Int) := ⟨r.toNat, (Int.toNat_of_nonneg r0).symm⟩
      have hj : j < (srt (names cs)).length := by omega
      refine r_ixL (x := nmD (srt (names cs))[j]) (atI_nat (by rw [List.getElem?_map, List.getElem?_eq_getElem hj]; rfl)) ?_
      have hin : (srt (names cs))[j] ∈ names cs := mem_srt.mp (List.getElem_mem _)
      generalize (srt (names cs))[j] = m at hin ⊢
      and_intros
      refine r_append (ws := nmW gs0) sx_j0 (small (by rw [List.length_map]; omega)) ?_
      have fa : ∃ (gs : List Nm) (c' : Cell), (Sx σ F c3 [.lst (nmW gs0)]).set σ.length (.lst (nmW gs0 ++ [.d (nmD m)])) = Sx σ F c' [.lst (nmW gs)] ∧ IsFeed c' ∧ gs.length ≤ 2 ∧ (∀ g ∈ gs, g ∈ names cs) ∧ ∀ m, lastOf br cs = some m → m ∈ gs := by
        refine ⟨gs0 ++ [m], c3, by rw [sx_sj0]; simp [nmW], hf3, by simp; omega, fun g hg => ?_, fun m' hm' => List.mem_append_left _ (glast0 m' hm')⟩
        rcases List.mem_append.mp hg with h | h
        · exact gsub0 g h
        · rw [List.mem_singleton.mp h]; exact hin
      generalize (Sx σ F c3 [.lst (nmW gs0)]).set σ.length (.lst (nmW gs0 ++ [.d (nmD m)])) = s at fa ⊢
      exact rest s fa
    · with_reducible refine r_next ?_
      have fa : ∃ (gs : List Nm) (c' : Cell), Sx σ F c2 [.lst (nmW gs0)] = Sx σ F c' [.lst (nmW gs)] ∧ IsFeed c' ∧ gs.length ≤ 2 ∧ (∀ g ∈ gs, g ∈ names cs) ∧ ∀ m, lastOf br cs = some m → m ∈ gs := ⟨gs0, c2, rfl, hf2, by omega, gsub0, glast0⟩
      generalize Sx σ F c2 [.lst (nmW gs0)] = s at fa ⊢
      exact rest s fa
  rintro s ⟨gs, c2, rfl, hf2, gl, gsub, glast⟩
  clear gl0 gsub0 glast0 hf1 wd1
  have wdj : ∀ {c j}, WdA (Sx σ F c j) n cs := fun {c j} => wd.sx of
  -- all that is wanted
  with_reducible refine r_seq ?_
  with_reducible refine r_asg ?_
  refine cutE (fun w s => w = .ref (σ.length + 1) ∧ s = Sx σ F c2 [.lst (nmW gs), .dct true (kvY [])]) (by and_intros; exact ⟨by rw [sx_len]; rfl, sx_app⟩) fun w s hw => ?_
  obtain ⟨rfl, rfl⟩ := hw
  and_intros
  have fsub : ∀ g ∈ gs, ∀ m ∈ knOf cs g ++ [g], m ∈ names cs := fun g hg m hm => by
    rcases List.mem_append.mp hm with h | h
    · exact kn_of_sub wr h
    · rw [List.mem_singleton.mp h]; exact gsub g hg
  refine r_itC (ws := nmW gs) sx_j0 ?_
  refine loop_run (fun i e s => ∃ v7 v8, e = [some (.ref F), some (.ref n), some (.d (ssD zs)), some (.d (.str br)), some (.d (.list ((srt (names cs)).map nmD))), some (.ref σ.length), some (.ref (σ.length + 1)), v7, v8, none, none, none, none, none] ∧
    s = Sx σ F c2 [.lst (nmW gs), .dct true (kvY (gather ((gs.take i).flatMap fun g => knOf cs g ++ [g])))]) ⟨none, none, rfl, rfl⟩ (fun i w e s Rest hw h k => ?_) fun e s h => ?_
  · obtain ⟨v7, v8, rfl, rfl⟩ := h
    rw [List.getElem?_map] at hw
    obtain ⟨g, hg, rfl⟩ := Option.map_eq_some_iff.mp hw
    have gin := List.mem_of_getElem? hg
    obtain ⟨ch, hch, chin, _⟩ := findC_mem (gsub g gin)
    have ekn := knOf_eq hch
    have kl : ch.kn.length ≤ 49 := kn_len wr c49 ch chin
    refine ⟨sx_j0, ?_⟩
    and_intros
    refine ix_kn wdj ?_
    and_intros
    refine ix_knN wdj hch ?_
    and_intros
    refine r_pures rfl (by show 1 ≤ sizeLine; decide) ?_
    and_intros
    refine r_addL (Nat.le_of_lt (small (by rw [List.length_map]; simp; omega))) ?_
    and_intros
    have eit : (ch.kn.map nmD ++ [nmD g]).map W.d = nmW (knOf cs g ++ [g]) := by rw [ekn]; simp [nmW]
    rw [eit]
    refine loop_run (fun j e s => ∃ v8, e = [some (.ref F), some (.ref n), some (.d (ssD zs)), some (.d (.str br)), some (.d (.list ((srt (names cs)).map nmD))), some (.ref σ.length), some (.ref (σ.length + 1)), some (.d (nmD g)), v8, none, none, none, none, none] ∧
      s = Sx σ F c2 [.lst (nmW gs), .dct true (kvY (gather (((gs.take i).flatMap fun g => knOf cs g ++ [g]) ++ (knOf cs g ++ [g]).take j)))]) ⟨v8, rfl, by rw [List.take_zero, List.append_nil]⟩ (fun j w e s Rest2 hw h k2 => ?_) fun e s h => ?_
    · obtain ⟨w8, rfl, rfl⟩ := h
      rw [List.getElem?_map] at hw
      obtain ⟨m, hm, rfl⟩ := Option.map_eq_some_iff.mp hw
      have inl : ∀ m ∈ ((gs.take i).flatMap fun g => knOf cs g ++ [g]) ++ (knOf cs g ++ [g]).take j, m ∈ names cs := fun m hm => by
        rcases List.mem_append.mp hm with h | h
        · obtain ⟨g', hg', hm'⟩ := List.mem_flatMap.mp h
          exact fsub g' (List.mem_of_mem_take hg') m hm'
        · exact fsub g gin m (List.mem_of_mem_take h)
      refine ⟨True.intro, ?_⟩
      and_intros
      refine r_put (sx_j (k := 1)) rfl (small (by rw [List.length_map]; have := gath50 c49 inl; omega)) ?_
      refine k2 _ _ ⟨_, rfl, ?_⟩
      rw [sx_sj, put_Y, take_snoc hm, ← List.append_assoc, gather_snoc]
      rfl
    · obtain ⟨w8, rfl, rfl⟩ := h
      refine ⟨True.intro, k _ _ ⟨_, _, rfl, ?_⟩⟩
      rw [List.length_map, List.take_length, take_snoc hg, List.flatMap_append]
      simp
  obtain ⟨v7, v8, rfl, rfl⟩ := h
  rw [List.length_map, List.take_length]
  refine ⟨sx_j0, ?_⟩
  -- the floor
  and_intros
  refine r_srt (kvs := kvY (want cs gs)) (sx_j (k := 1)) (keys_Y _) ?_
  have flin : ∀ m ∈ srt (want cs gs), m ∈ names cs := fun m hm => want_sub wr gsub (mem_srt.mp hm)
  have fl50 : (srt (want cs gs)).length ≤ 49 := by rw [srt_len]; have := want_len wr gsub; omega
  have flw : ∀ m ∈ srt (want cs gs), Wrd m.2 := fun m hm => nmw m (flin m hm)
  generalize hfloor : srt (want cs gs) = floor at flin fl50 flw ⊢
  generalize hj0 : ([.lst (nmW gs), .dct true (kvY (gather (gs.flatMap fun g => knOf cs g ++ [g])))] : Sto) = j0
  have lj0 : j0.length = 2 := by rw [← hj0]; rfl
  with_reducible refine r_agN ?_
  with_reducible refine r_seq ?_
  with_reducible refine r_asg ?_
  refine cutE (fun w s => w = .ref (σ.length + 2) ∧ s = Sx σ F c2 (j0 ++ [.dct true (kvY [])])) (by and_intros; exact ⟨by rw [sx_len, lj0], sx_app⟩) fun w s hw => ?_
  obtain ⟨rfl, rfl⟩ := hw
  have at2 : ∀ {d : Cell} {j' : Sto}, (Sx σ F c2 (j0 ++ (d :: j')))[σ.length + 2]? = some d := fun {d j'} => by
    rw [sx_j, List.getElem?_append_right (by omega), lj0]; rfl
  have set2 : ∀ {d d' : Cell}, (Sx σ F c2 (j0 ++ [d])).set (σ.length + 2) d' = Sx σ F c2 (j0 ++ [d']) := fun {d d'} => by
    rw [sx_sj, List.set_append_right _ _ (by omega), lj0]; rfl
  -- what is below
  and_intros
  have eit : (floor.map nmD).map W.d = nmW floor := by simp [nmW]
  rw [eit]
  refine loop_run (fun i e s => ∃ v7 v8, e = [some (.ref F), some (.ref n), some (.d (ssD zs)), some (.d (.str br)), some (.d (.list ((srt (names cs)).map nmD))), some (.ref σ.length), some (.ref (σ.length + 1)), v7, v8, some (.d (.list (floor.map nmD))), some (.ref (σ.length + 2)), none, none, none] ∧
    s = Sx σ F c2 (j0 ++ [.dct true (kvY (gather ((floor.take i).flatMap (knOf cs))))])) ⟨_, _, rfl, rfl⟩ (fun i w e s Rest hw h k => ?_) fun e s h => ?_
  · obtain ⟨v7, v8, rfl, rfl⟩ := h
    rw [List.getElem?_map] at hw
    obtain ⟨g, hg, rfl⟩ := Option.map_eq_some_iff.mp hw
    have gin := List.mem_of_getElem? hg
    obtain ⟨ch, hch, chin, _⟩ := findC_mem (flin g gin)
    have ekn := knOf_eq hch
    refine ⟨True.intro, ?_⟩
    and_intros
    refine ix_kn wdj ?_
    and_intros
    refine ix_knN wdj hch ?_
    and_intros
    have eit : (ch.kn.map nmD).map W.d = nmW (knOf cs g) := by rw [ekn]; simp [nmW]
    rw [eit]
    refine loop_run (fun j e s => ∃ v7, e = [some (.ref F), some (.ref n), some (.d (ssD zs)), some (.d (.str br)), some (.d (.list ((srt (names cs)).map nmD))), some (.ref σ.length), some (.ref (σ.length + 1)), v7, some (.d (nmD g)), some (.d (.list (floor.map nmD))), some (.ref (σ.length + 2)), none, none, none] ∧
      s = Sx σ F c2 (j0 ++ [.dct true (kvY (gather (((floor.take i).flatMap (knOf cs)) ++ (knOf cs g).take j)))])) ⟨v7, rfl, by rw [List.take_zero, List.append_nil]⟩ (fun j w e s Rest2 hw h k2 => ?_) fun e s h => ?_
    · obtain ⟨w7, rfl, rfl⟩ := h
      rw [List.getElem?_map] at hw
      obtain ⟨m, hm, rfl⟩ := Option.map_eq_some_iff.mp hw
      have inl : ∀ m ∈ ((floor.take i).flatMap (knOf cs)) ++ (knOf cs g).take j, m ∈ names cs := fun m hm => by
        rcases List.mem_append.mp hm with h | h
        · obtain ⟨g', hg', hm'⟩ := List.mem_flatMap.mp h
          exact kn_of_sub wr hm'
        · exact kn_of_sub wr (List.mem_of_mem_take h)
      refine ⟨True.intro, ?_⟩
      and_intros
      refine r_put at2 rfl (small (by rw [List.length_map]; have := gath50 c49 inl; omega)) ?_
      refine k2 _ _ ⟨_, rfl, ?_⟩
      rw [set2, put_Y, take_snoc hm, ← List.append_assoc, gather_snoc]
    · obtain ⟨w7, rfl, rfl⟩ := h
      refine ⟨True.intro, k _ _ ⟨_, _, rfl, ?_⟩⟩
      rw [List.length_map, List.take_length, take_snoc hg, List.flatMap_append]
      simp
  obtain ⟨w7, w8, rfl, rfl⟩ := h
  rw [List.length_map, List.take_length]
  refine ⟨True.intro, ?_⟩
  -- the base
  and_intros
  generalize hj1 : (j0 ++ [.dct true (kvY (gather (floor.flatMap (knOf cs))))] : Sto) = j1
  have hB : ∀ j', (Sx σ F c2 (j1 ++ j'))[σ.length + 2]? = some (.dct true (kvY (below cs floor))) := fun j' => by rw [← hj1, List.append_assoc]; exact at2
  clear at2 set2
  rw [eit]
  refine lc_fz (fun i acc s => s = Sx σ F c2 j1 ∧ acc = ((floor.take i).filter fun m => !decide (m ∈ below cs floor)).map nmD) ⟨rfl, by simp⟩ (fun i acc s h => by rw [h.1]; exact sx_sh hF hf2) (fun i w acc s Rest hw h k => ?_) fun acc s h => ?_
  · obtain ⟨rfl, rfl⟩ := h
    rw [List.getElem?_map] at hw
    obtain ⟨m, hm, rfl⟩ := Option.map_eq_some_iff.mp hw
    refine ⟨True.intro, ?_⟩
    and_intros
    refine r_inD (kvs := kvY (below cs floor)) (by rw [sx_app]; simp only [prsOf, hB]) (kc_Y _ _) ?_
    rw [get_Y]
    and_intros
    by_cases hin : m ∈ below cs floor
    · rw [if_pos hin]
      refine r_iteB (fun h => by simp at h) fun _ => ?_
      exact k _ _ ⟨rfl, by rw [take_snoc hm, List.filter_append]; simp [hin]⟩
    · rw [if_neg hin]
      refine r_iteB (fun _ => ?_) fun h => by simp at h
      and_intros
      refine tg_app (by simp) (small ?_) (k _ _ ⟨rfl, ?_⟩)
      · have := List.length_filter_le (fun m => !decide (m ∈ below cs floor)) (floor.take i)
        rw [List.length_take] at this
        rw [List.length_map]
        omega
      · rw [take_snoc hm, List.filter_append]
        simp [hin]
  obtain ⟨rfl, rfl⟩ := h
  rw [List.length_map, List.take_length]
  refine ⟨True.intro, ?_⟩
  generalize hbase : (floor.filter fun m => !decide (m ∈ below cs floor)) = base
  -- the name
  and_intros
  with_reducible refine r_maxD ?_
  and_intros
  rw [eit]
  refine lc_fz (fun i acc s => s = Sx σ F c2 j1 ∧ acc = ((floor.take i).map (·.1)).map .int) ⟨rfl, by simp⟩ (fun i acc s h => by rw [h.1]; exact sx_sh hF hf2) (fun i w acc s Rest hw h k => ?_) fun acc s h => ?_
  · obtain ⟨rfl, rfl⟩ := h
    rw [List.getElem?_map] at hw
    obtain ⟨m, hm, rfl⟩ := Option.map_eq_some_iff.mp hw
    refine ⟨True.intro, ?_⟩
    and_intros
    refine r_ixT (x := .int m.1) at0 ?_
    refine tg_app (by simp) (small (by rw [List.length_map, List.length_map, List.length_take]; omega)) (k _ _ ⟨rfl, ?_⟩)
    rw [take_snoc hm]
    simp
  obtain ⟨rfl, rfl⟩ := h
  rw [List.length_map, List.take_length]
  refine ⟨True.intro, ?_⟩
  and_intros
  refine r_mx ?_
  and_intros
  refine r_pures rfl (by show 2 ≤ sizeLine; decide) ?_
  rw [show PyData.tuple [.int (1 + maxZ 0 (floor.map (·.1))), .str br] = nmD (1 + maxZ 0 (floor.map (·.1)), br) from rfl]
  generalize hnm : ((1 + maxZ 0 (floor.map (·.1)), br) : Nm) = nm
  -- the deed
  and_intros
  refine ⟨F, n, cs, base, floor, c2, rfl, sx_at hF, hf2, of, wdj, flin, flw, by omega, fun deed c3 hd hf3 => ?_⟩
  rw [sx_set hF]
  obtain ⟨kvs, h3, h3k, h3l, h3g⟩ := wd.a3
  obtain ⟨hs, h4, h4l⟩ := wd.a4
  have of' := of
  unfold Off at of'
  have cl0 : Cl σ F n (Sx σ F c3 j1) c3 (.dct false (kvW n)) (.dct true (kv1 cs)) (.dct true (kv2 cs)) (.dct false kvs) (.lst (nmW hs)) :=
    ⟨by rw [sx_len]; omega, sx_at hF, sx_old wd.w (by omega), sx_old wd.a1 (by omega), sx_old wd.a2 (by omega), sx_old h3 (by omega), sx_old h4 (by omega), fun i h1 h2 h3 => by
      rw [List.getElem?_append_left (by simpa using h1), List.getElem?_set_ne (Ne.symm h2)]⟩
  clear hB hj1 wdj
  with_reducible refine r_agN ?_
  with_reducible refine r_seq ?_
  generalize Sx σ F c3 j1 = s0 at cl0 ⊢
  apply byS (Fa := fun s => ∃ hs : List Nm, Cl σ F n s c3 (.dct false (kvW n)) (.dct true (kv1 cs)) (.dct true (kv2 cs)) (.dct false kvs) (.lst (nmW hs)) ∧ hs.length ≤ cs.length + 1)
  · intro rest
    and_intros
    refine r_ixT (x := .str (kindS deed)) at0 ?_
    and_intros
    refine r_ite (fun _ => ?_) fun _ => ?_
    · and_intros
      refine ix_w4 cl0.h0 ?_
      and_intros
      refine r_tyC cl0.h4 ?_
      and_intros
      refine r_append cl0.h4 (small (by rw [List.length_map]; omega)) ?_
      have cl1 := cl0.s4 (d := .lst (nmW hs ++ [.d (nmD nm)])) of
      have fa : ∃ hs' : List Nm, Cl σ F n (s0.set (n + 4) (.lst (nmW hs ++ [.d (nmD nm)]))) c3 (.dct false (kvW n)) (.dct true (kv1 cs)) (.dct true (kv2 cs)) (.dct false kvs) (.lst (nmW hs')) ∧ hs'.length ≤ cs.length + 1 := ⟨hs ++ [nm], by simpa [nmW] using cl1, by simp; omega⟩
      clear cl1
      generalize s0.set (n + 4) (.lst (nmW hs ++ [.d (nmD nm)])) = s at fa ⊢
      exact rest s fa
    · with_reducible refine r_next ?_
      exact rest s0 ⟨hs, cl0, by omega⟩
  rintro s ⟨hs', cl, hl'⟩
  clear cl0 h4 h4l hs
  and_intros
  refine ⟨F, _, c3, rfl, by rw [List.length_map]; omega, by rw [List.length_map]; omega, cl.f, hf3, fun r c4 r0 r1 hf4 => ?_⟩
  have cl4 := cl.sF (d := c4) of
  generalize s.set F c4 = s4 at cl4 ⊢
  rw [List.length_map] at r1
  obtain ⟨j, rfl⟩ : ∃ j : Nat, r = (j : Int) := ⟨r.toNat, (Int.toNat_of_nonneg r0).symm⟩
  have hj : j < zs.length := by omega
  refine r_ixL (x := .str zs[j]) (atI_nat (by rw [List.getElem?_map, List.getElem?_eq_getElem hj]; rfl)) ?_
  have hin : zs[j] ∈ zs := List.getElem_mem _
  generalize zs[j] = hand at hin ⊢
  and_intros
  refine r_pures rfl (by show 4 ≤ sizeLine; decide) ?_
  obtain ⟨ch, hch⟩ : ∃ ch : Ch, ch = mkCh cs br gs hand deed := ⟨_, rfl⟩
  have e1 : ch.nm = nm := by rw [hch, ← hnm, ← hfloor]; rfl
  have e2 : ch.kn = floor := by rw [hch, ← hfloor]; rfl
  have e3 : ch.base = base := by rw [hch, ← hbase, ← hfloor]; rfl
  have e4 : ch.hand = hand := by rw [hch]; rfl
  have e5 : ch.deed = deed := by rw [hch]; rfl
  have sok : StepOk zs cs ch := ⟨br, hand, gs, deed, brin, hin, gsub, glast, hch, by rw [e3, e2]; exact hd⟩
  have new : nm ∉ names cs := e1 ▸ step_new wr sok
  have ecd : PyData.tuple [nmD nm, .str hand, .tuple (base.map nmD), deedD deed] = Mw.chD ch := by unfold Mw.chD; rw [e1, e3, e4, e5]
  rw [ecd]
  and_intros
  refine ix_w1 cl4.h0 ?_
  and_intros
  refine r_put cl4.h1 rfl (small (by rw [List.length_map]; omega)) ?_
  rw [dput_new (by rw [get_names, find_none new]; rfl), show kv1 cs ++ [(nmD nm, W.d (Mw.chD ch))] = kv1 (cs ++ [ch]) by simp [kv1, e1]]
  have cl5 := cl4.s1 (d := .dct true (kv1 (cs ++ [ch]))) of
  generalize s4.set (n + 1) (.dct true (kv1 (cs ++ [ch]))) = s5 at cl5 ⊢
  and_intros
  refine ix_w2 cl5.h0 ?_
  and_intros
  refine r_put cl5.h2 rfl (small (by rw [List.length_map]; omega)) ?_
  rw [dput_new (by rw [get_names, find_none new]; rfl), show kv2 cs ++ [(nmD nm, W.d (.list (floor.map nmD)))] = kv2 (cs ++ [ch]) by simp [kv2, e1, e2]]
  have cl6 := cl5.s2 (d := .dct true (kv2 (cs ++ [ch]))) of
  generalize s5.set (n + 2) (.dct true (kv2 (cs ++ [ch]))) = s6 at cl6 ⊢
  and_intros
  refine ix_w3 cl6.h0 ?_
  and_intros
  refine r_put cl6.h3 rfl (small (by omega)) ?_
  have cl7 := cl6.s3 (d := .dct false (dput kvs (.str br) (.d (nmD nm)))) of
  generalize s6.set (n + 3) (.dct false (dput kvs (.str br) (.d (nmD nm)))) = s7 at cl7 ⊢
  and_intros
  show Q' _ _
  rw [← hQ]
  have enm2 : nm.2 = br := by rw [← hnm]
  refine told_w hn4 hF hf4 cl7 (fun p hp => ?_) ?_ (fun b => ?_) (by simpa using hl') fun σ' a1 a2 a3 a4 => q ch c4 σ' sok hf4 a1 a2 a3 a4
  · rcases dput_mem hp with h | ⟨h, h'⟩
    · exact h3k p h
    · exact ⟨by rw [h]; rfl, _, h'⟩
  · have := dput_len kvs (.str br) (.d (nmD nm))
    simp; omega
  · rw [dget_dput, lastOf_snoc, e1, enm2]
    by_cases h : b = br
    · rw [if_pos (by rw [h]), if_pos h.symm]; rfl
    · rw [if_neg (fun z => h (by injection z)), if_neg (Ne.symm h)]; exact h3g b
end Lw

set_option maxHeartbeats 4000000
/-! LwF: the feed, the world, the ledger. -/
namespace Lw
open PySem PySem.Spec PyProof.Rows L2 Mw Aw
def dspC (n : Nat) (Q : QK) (ps : List (W × W)) (σ2 : Sto) : Prop := σ2[n]? = some (.dct false []) ∧ ps.length ≤ 15 ∧ ∃ kvs, mergeD [] ps = some kvs ∧ Q (.ref n) (σ2.set n (.dct false kvs))
theorem r_disp {fs : List (AE × AE)} {e : Ev} {σ : Sto} {Q : QK} {X : XQ} (h : aPairs fs e (σ ++ [.dct false []]) (fun ps σ2 => dspC σ.length Q ps σ2) X) : aDisp fs e σ Q X := h
theorem r_pr1 {fk fv : AE} {r : List (AE × AE)} {e : Ev} {σ : Sto} {Q : List (W × W) → Sto → Prop} {X : XQ} (h : fk e σ (fun x σ1 => fv e σ1 (fun y σ2 => aPairs r e σ2 (fun ps σ3 => Q ((x, y) :: ps) σ3) X) X) X) : aPairs ((fk, fv) :: r) e σ Q X := h
theorem r_pr0 {e : Ev} {σ : Sto} {Q : List (W × W) → Sto → Prop} {X : XQ} (h : Q [] σ) : aPairs [] e σ Q X := h
theorem mg1 {acc : List (PyData × W)} {x : Str} {v : W} {r : List (W × W)} (h : dget acc (.str x) = none) : mergeD acc ((.d (.str x), v) :: r) = mergeD (acc ++ [(.str x, v)]) r := by
  show (if isK _ = true then _ else _) = _
  rw [if_pos (show isK (PyData.str x) = true from rfl), dput_new h]
theorem mg4 {a b c d : Str} {v1 v2 v3 v4 : W} (h1 : decide (a = b) = false) (h2 : decide (a = c) = false) (h3 : decide (a = d) = false) (h4 : decide (b = c) = false) (h5 : decide (b = d) = false) (h6 : decide (c = d) = false) :
    mergeD [] [(.d (.str a), v1), (.d (.str b), v2), (.d (.str c), v3), (.d (.str d), v4)] = some [(.str a, v1), (.str b, v2), (.str c, v3), (.str d, v4)] := by
  rw [mg1 rfl, mg1 (by rw [List.nil_append, dget_neg (sne h1)]; rfl), mg1 (by rw [List.nil_append, List.singleton_append, dget_neg (sne h2), dget_neg (sne h4)]; rfl), mg1 (by
    simp only [List.nil_append, List.singleton_append, List.cons_append]
    rw [dget_neg (sne h3), dget_neg (sne h5), dget_neg (sne h6)]; rfl)]
  rfl
theorem r_slX {ns : List Int} {l u : Option Int} {σ : Sto} {Q : QK} (h : Q (.d (.list (cutL (ns.map .int) l u))) σ) : slW (.scr ns) l u σ Q := h
theorem cutL63 (ns : List Int) (h : ns.length ≤ 63) : cutL (ns.map PyData.int) none (some 63) = ns.map .int := by
  unfold cutL
  rw [HT.sIx_none, show HT.sIx (ns.map PyData.int).length (ns.map PyData.int).length (some 63) = min 63 (ns.map PyData.int).length from HT.sIx_nat _ _ 63, List.drop_zero, Nat.sub_zero]
  exact List.take_of_length_le (by rw [List.length_map]; omega)
theorem feed_ok : ∀ ws σ Q X, fFeed ws σ Q X → aFn 1 pFeed ws σ Q X := by
  rintro ws σ Q X ⟨ns, rfl, hl, q⟩
  and_intros
  with_reducible refine r_disp ?_
  with_reducible refine r_pr1 ?_
  and_intros
  refine r_slX ?_
  rw [cutL63 ns hl]
  and_intros
  with_reducible refine r_pr1 ?_
  and_intros
  with_reducible refine r_pr1 ?_
  and_intros
  with_reducible refine r_pr1 ?_
  and_intros
  with_reducible refine r_pr0 ?_
  refine ⟨by simp, by show 4 ≤ 15; decide, _, mg4 (by decide +kernel) (by decide +kernel) (by decide +kernel) (by decide +kernel) (by decide +kernel) (by decide +kernel), ?_⟩
  show Q _ _
  rw [List.set_append_right _ _ (Nat.le_refl _), Nat.sub_self]
  exact q _ ⟨ns, 0, 0, 0, rfl, hl, Int.le_refl _⟩
instance : MoF fFeed := ⟨fun k ⟨ns, h1, h2, q⟩ => ⟨ns, h1, h2, fun c hc => k _ _ (q c hc)⟩⟩
/-- a world: five cells behind what there was -/
def fWorld : AF := fun ws σ Q _ => ∃ F zs m c, ws = [.ref F, .d (ssD zs), .d (.int m)] ∧ σ[F]? = some c ∧ IsFeed c ∧ 0 < zs.length ∧ zs.length ≤ 6 ∧ (∀ z ∈ zs, Wrd z) ∧ 0 ≤ m ∧ m ≤ 40 ∧
  ∀ cs c' σ', Wr zs cs → (cs.length : Int) = m → IsFeed c' → σ'[F]? = some c' → WdA σ' σ.length cs → σ'.length = σ.length + 5 → (∀ i, i < σ.length → i ≠ F → σ'[i]? = σ[i]?) → Q (.ref σ.length) σ'
instance : MoF fWorld := ⟨fun k ⟨F, zs, m, c, h1, h2, h3, h4, h5, h6, h7, h8, q⟩ => ⟨F, zs, m, c, h1, h2, h3, h4, h5, h6, h7, h8, fun a1 a2 a3 a4 a5 a6 a7 a8 a9 a10 => k _ _ (q a1 a2 a3 a4 a5 a6 a7 a8 a9 a10)⟩⟩
theorem world_ok : ∀ ws σ Q X, fWorld ws σ Q X → aFn 5 (pWorld fStep) ws σ Q X := by
  rintro ws σ Q X ⟨F, zs, m, c, rfl, hc, hf, z0, z6, wrd, m0, m40, q⟩
  have hF : F < σ.length := (List.getElem?_eq_some_iff.mp hc).1
  with_reducible refine r_fn ?_
  with_reducible refine r_seq ?_
  with_reducible refine r_asg ?_
  with_reducible refine r_disp ?_
  with_reducible refine r_pr1 ?_
  and_intros
  with_reducible refine r_pr1 ?_
  and_intros
  with_reducible refine r_pr1 ?_
  and_intros
  with_reducible refine r_pr1 ?_
  and_intros
  refine ⟨Nat.zero_le _, ?_⟩
  with_reducible refine r_pr0 ?_
  have en : ((((σ ++ [Cell.dct false []]) ++ [Cell.dct true []]) ++ [Cell.dct true []]) ++ [Cell.dct false []]) ++ [Cell.lst []] = σ ++ [Cell.dct false [], .dct true [], .dct true [], .dct false [], .lst []] := by simp
  rw [en]
  refine ⟨by simp, by show 4 ≤ 15; decide, _, mg4 (by decide +kernel) (by decide +kernel) (by decide +kernel) (by decide +kernel) (by decide +kernel) (by decide +kernel), ?_⟩
  have l1 : (σ ++ [Cell.dct false []]).length = σ.length + 1 := by simp
  have l2 : (σ ++ [Cell.dct false []] ++ [Cell.dct true []]).length = σ.length + 2 := by simp
  have l3 : (σ ++ [Cell.dct false []] ++ [Cell.dct true []] ++ [Cell.dct true []]).length = σ.length + 3 := by simp
  have l4 : (σ ++ [Cell.dct false []] ++ [Cell.dct true []] ++ [Cell.dct true []] ++ [Cell.dct false []]).length = σ.length + 4 := by simp
  rw [l1, l2, l3, l4]
  have es : (σ ++ [Cell.dct false [], .dct true [], .dct true [], .dct false [], .lst []]).set σ.length (.dct false (kvW σ.length)) = σ ++ [Cell.dct false (kvW σ.length), .dct true [], .dct true [], .dct false [], .lst []] := by
    rw [List.set_append_right _ _ (Nat.le_refl _), Nat.sub_self]; rfl
  rw [show [(PyData.str (Str.ofString "changes"), W.ref (σ.length + 1)), (.str (Str.ofString "knows"), W.ref (σ.length + 2)), (.str (Str.ofString "last"), W.ref (σ.length + 3)), (.str (Str.ofString "hangs"), W.ref (σ.length + 4))] = kvW σ.length from rfl, es]
  have at_ : ∀ k, (σ ++ [Cell.dct false (kvW σ.length), .dct true [], .dct true [], .dct false [], .lst []])[σ.length + k]? = [Cell.dct false (kvW σ.length), .dct true [], .dct true [], .dct false [], .lst []][k]? := fun k => by
    rw [List.getElem?_append_right (by omega)]; simp
  have wd0 : WdA (σ ++ [Cell.dct false (kvW σ.length), .dct true [], .dct true [], .dct false [], .lst []]) σ.length [] :=
    ⟨at_ 0, at_ 1, at_ 2, ⟨[], at_ 3, (fun p hp => by cases hp), Nat.le_refl _, fun br => rfl⟩, ⟨[], at_ 4, Nat.le_refl _⟩⟩
  have old0 : ∀ i, i < σ.length → (σ ++ [Cell.dct false (kvW σ.length), .dct true [], .dct true [], .dct false [], .lst []])[i]? = σ[i]? := fun i hi => List.getElem?_append_left hi
  have len0 : (σ ++ [Cell.dct false (kvW σ.length), .dct true [], .dct true [], .dct false [], .lst []]).length = σ.length + 5 := by simp
  generalize (σ ++ [Cell.dct false (kvW σ.length), .dct true [], .dct true [], .dct false [], .lst []]) = s0 at wd0 old0 len0 ⊢
  clear en l1 l2 l3 l4 es at_
  have of : Off F σ.length := .inl hF
  and_intros
  refine r_rng (by omega) (by omega) ?_
  refine loop_run (fun i e s => ∃ cs c v4, e = [some (.ref F), some (.d (ssD zs)), some (.d (.int m)), some (.ref σ.length), v4] ∧ Wr zs cs ∧ cs.length = i ∧ IsFeed c ∧ s[F]? = some c ∧ WdA s σ.length cs ∧ s.length = σ.length + 5 ∧ ∀ l, l < σ.length → l ≠ F → s[l]? = σ[l]?)
    ⟨[], c, none, rfl, .nil, rfl, hf, by rw [old0 F hF]; exact hc, wd0, len0, fun l h _ => old0 l h⟩ (fun i w e s Rest hw h k => ?_) fun e s h => ?_
  · obtain ⟨cs, c', v4, rfl, wr, hcl, hf', hc', wd, hl, old⟩ := h
    obtain ⟨rfl, hi⟩ := rng_at hw
    refine ⟨True.intro, ?_⟩
    and_intros
    refine ⟨F, σ.length, cs, zs, c', rfl, hc', hf', of, wd, z0, z6, wrd, wr, by omega, fun ch c2 s2 sok hf2 hc2 wd2 hl2 old2 => ?_⟩
    exact k _ _ ⟨cs ++ [ch], c2, _, rfl, .snoc wr sok, by simp [hcl], hf2, hc2, wd2, by rw [hl2, hl], fun l h1 h2 => by rw [old2 l h2 (.inl h1)]; exact old l h1 h2⟩
  · obtain ⟨cs, c', v4, rfl, wr, hcl, hf', hc', wd, hl, old⟩ := h
    rw [rng_len] at hcl
    refine ⟨True.intro, ?_⟩
    and_intros
    show Q _ _
    exact q cs c' s wr (by omega) hf' hc' wd hl old
/-! ### ledgers -/
theorem eqv_nm (m n : Nm) : PyData.eqv (nmD m) (nmD n) = decide (m = n) := by
  obtain ⟨i, x⟩ := m
  obtain ⟨j, y⟩ := n
  simp only [nmD, PyData.eqv, PyData.eqvAll, Bool.and_true]
  by_cases h1 : i = j
  · by_cases h2 : x = y
    · subst h1; subst h2; simp
    · have : ¬ (i, x) = (j, y) := fun e => h2 (Prod.mk.inj e).2
      rw [decide_eq_false this]
      simp [h2]
  · have : ¬ (i, x) = (j, y) := fun e => h1 (Prod.mk.inj e).1
    rw [decide_eq_false this]
    simp [h1]
theorem any_nm (nms : List Nm) (n : Nm) : ((nms.map nmD).any fun z => PyData.eqv z (nmD n)) = decide (n ∈ nms) := by
  induction nms with
  | nil => rfl
  | cons m r ih =>
    rw [List.map_cons, List.any_cons, ih, eqv_nm]
    by_cases h : m = n
    · simp [h]
    · have : ¬ n = m := fun e => h e.symm
      simp [h, this]
theorem shNmsT {l : List Nm} (h : ∀ n ∈ l, Wrd n.2) : SeqAt.shaped (.tuple (l.map nmD)) = true := by
  obtain ⟨a, b⟩ := shNms0 h
  show (PyData.canLay0 (.tuple (l.map nmD)) && decide (PyData.depth (.tuple (l.map nmD)) ≤ 64)) = true
  rw [Bool.and_eq_true]
  exact ⟨by simp only [PyData.canLay0]; exact a, decide_eq_true (by simp only [PyData.depth]; omega)⟩
def ledP (cs : List Ch) (nms : List Nm) : List Ch := ((srt (names cs)).filter fun n => decide (n ∈ nms)).filterMap (findC cs)
abbrev ledD (l : List Ch) : PyData := .tuple (l.map Mw.chD)
def fLedger : AF := fun ws σ Q _ => ∃ n cs nms w, ws = [.ref n, w] ∧ (w = .d (.list (nms.map nmD)) ∨ w = .d (.tuple (nms.map nmD))) ∧ WdA σ n cs ∧ cs.length ≤ 50 ∧ (∀ m ∈ names cs, Wrd m.2) ∧ (∀ m ∈ nms, Wrd m.2) ∧ Q (.d (ledD (ledP cs nms))) σ
instance : MoF fLedger := ⟨fun k ⟨n, cs, nms, w, h1, h2, h3, h4, h5, h6, q⟩ => ⟨n, cs, nms, w, h1, h2, h3, h4, h5, h6, k _ _ q⟩⟩
theorem WdA.app {σ j : Sto} {n : Nat} {cs : List Ch} (w : WdA σ n cs) : WdA (σ ++ j) n cs := by
  have ap : ∀ {i d}, σ[i]? = some d → (σ ++ j)[i]? = some d := fun {i d} h => by rw [List.getElem?_append_left (List.getElem?_eq_some_iff.mp h).1]; exact h
  obtain ⟨kvs, h1, h2⟩ := w.a3
  obtain ⟨hs, g1, g2⟩ := w.a4
  exact ⟨ap w.w, ap w.a1, ap w.a2, ⟨kvs, ap h1, h2⟩, ⟨hs, ap g1, g2⟩⟩
theorem ledger_ok : ∀ ws σ Q X, fLedger ws σ Q X → aFn 3 pLedger ws σ Q X := by
  rintro ws σ Q X ⟨n, cs, nms, w, rfl, hw, wd, c50, nw, nw', q⟩
  and_intros
  refine ix_ch wd ?_
  and_intros
  refine r_srt wd.a1 (keys_1 cs) ?_
  and_intros
  have l50 : (srt (names cs)).length ≤ 50 := by rw [srt_len, List.length_map]; exact c50
  have hin : ∀ m ∈ srt (names cs), m ∈ names cs := fun m hm => mem_srt.mp hm
  unfold ledP at q
  generalize srt (names cs) = L at q l50 hin ⊢
  refine lc_fz (fun i acc s => s = σ ∧ acc = (((L.take i).filter fun n => decide (n ∈ nms)).filterMap (findC cs)).map Mw.chD) ⟨rfl, by simp⟩ (fun i acc s h => by rw [h.1]; exact ⟨rfl, fun _ _ h => .inl h⟩) (fun i w' acc s Rest hw' h k => ?_) fun acc s h => ?_
  · obtain ⟨rfl, rfl⟩ := h
    rw [List.getElem?_map, List.getElem?_map] at hw'
    obtain ⟨d, hd, rfl⟩ := Option.map_eq_some_iff.mp hw'
    obtain ⟨m, hm, rfl⟩ := Option.map_eq_some_iff.mp hd
    have min := hin m (List.mem_of_getElem? hm)
    obtain ⟨ch, hch, _, _⟩ := findC_mem min
    refine ⟨True.intro, ?_⟩
    and_intros
    have tst : ∀ {B : Bool → Sto → Prop} {s : Sto}, B (decide (m ∈ nms)) s → inW false (.d (nmD m)) w s (fun x σ1 => tstB B x σ1) := fun {B s} h => by
      rcases hw with rfl | rfl
      · refine r_inL (shNm (nw m min)) (shNmsT nw') ?_
        refine r_tbool ?_
        rw [any_nm]
        exact h
      · refine r_inT (shNm (nw m min)) (shNmsT nw') ?_
        refine r_tbool ?_
        rw [any_nm]
        exact h
    refine tst ?_
    refine r_ite (fun hk => ?_) fun hk => ?_
    · and_intros
      refine ix_ch wd.app ?_
      and_intros
      refine ix_chN wd.app hch ?_
      refine tg_app rfl (small ?_) (k _ _ ⟨rfl, ?_⟩)
      · rw [List.length_map]
        have h1 := List.length_filterMap_le (findC cs) ((L.take i).filter fun n => decide (n ∈ nms))
        have h2 := List.length_filter_le (fun n => decide (n ∈ nms)) (L.take i)
        rw [List.length_take] at h2
        omega
      · rw [take_snoc hm, List.filter_append, List.filterMap_append, List.map_append]
        simp [hk, hch]
    · refine k _ _ ⟨rfl, ?_⟩
      rw [take_snoc hm, List.filter_append, List.filterMap_append, List.map_append]
      simp [hk]
  obtain ⟨rfl, rfl⟩ := h
  rw [List.length_map, List.length_map, List.take_length]
  refine ⟨True.intro, ?_⟩
  and_intros
  exact q
end Lw

set_option maxHeartbeats 4000000
/-! LwG: without. -/
namespace Lw
open PySem PySem.Spec PyProof.Rows L2 Mw Aw
noncomputable abbrev pWo : AS := (aSeq (aAsg (aDcT (aIt (aVar 1)) (agN 3) aYes (aVar 3) (aD (.bool true)) [3]) (agN 2))
  (aSeq (aAsg (aLstC aNil) (agN 4))
  (aSeq (aFor (aIt (aVar 0)) (agN 5)
    (aIfS (aOr (aTest (aOp (inW false) (aOp ixW (aVar 5) (aD (.int 0))) (aVar 2))) (aTest (aAllG (aIt (aOp ixW (aVar 5) (aD (.int 2)))) (agN 6) aYes (aOp (inW false) (aVar 6) (aVar 2)) [6] false)))
    (aDPut (aVar 2) (aOp ixW (aVar 5) (aD (.int 0))) (aD (.bool true)))
    (aDrop (aBM "list" appendW (aVar 4) (aCons (aVar 5) aNil)))))
  (aRet (aCB tupleW (aCons (aVar 4) aNil))))))
def hit (g : List Nm) (c : Ch) : Bool := decide (c.nm ∈ g) || (c.base.map fun b => decide (b ∈ g)).any id
def wout : List Nm → List Ch → List Ch
  | _, [] => []
  | g, c :: r => if hit g c = true then wout (ins g c.nm) r else c :: wout g r
theorem wout_no {g : List Nm} {c : Ch} {r : List Ch} (h : hit g c = false) : wout g (c :: r) = c :: wout g r := by
  rw [wout, if_neg (by rw [h]; decide)]
theorem wout_hit {g : List Nm} {c : Ch} {r : List Ch} (h : hit g c = true) : wout g (c :: r) = wout (ins g c.nm) r := by
  rw [wout, if_pos h]
theorem px_j {σ j : Sto} {k : Nat} : (σ ++ j)[σ.length + k]? = j[k]? := by rw [List.getElem?_append_right (by omega)]; simp
theorem px_j0 {σ j : Sto} : (σ ++ j)[σ.length]? = j[0]? := px_j (k := 0)
theorem px_s {σ j : Sto} {k : Nat} {d : Cell} : (σ ++ j).set (σ.length + k) d = σ ++ j.set k d := by rw [List.set_append_right _ _ (by omega)]; simp
theorem px_s0 {σ j : Sto} {d : Cell} : (σ ++ j).set σ.length d = σ ++ j.set 0 d := px_s (k := 0)
theorem r_dcT {ai : AI} {ag : AG} {ft : AT} {fk fv : AE} {vs : List Nat} {e : Ev} {σ : Sto} {Q : QK} {X : XQ} (h : ai e σ (fun items stay σ1 => dcGo ag ft fk fv (wipeE e vs) σ1.length stay X (fun σf => Q (.ref σ1.length) σf) items (σ1 ++ [.dct true []])) X) : aDcT ai ag ft fk fv vs e σ Q X := h
def anyS (go : Bool) (Q : QK) (_ : Unit) (w : W) (N : Unit → Prop) (σ' : Sto) : Prop := ∃ b, w = .d (.bool b) ∧ if b = go then N () else Q (.d (.bool b)) σ'
theorem r_allG {ai : AI} {ag : AG} {ft : AT} {fa : AE} {vs : List Nat} {go : Bool} {e : Ev} {σ : Sto} {Q : QK} {X : XQ} (h : ai e σ (fun items stay σ1 => gnGo ag ft fa (wipeE e vs) stay X (anyS go Q) (fun _ σf => Q (.d (.bool go)) σf) items () σ1) X) : aAllG ai ag ft fa vs go e σ Q X := h
theorem gnGo_mo {α : Type} {ag : AG} {ft : AT} {fa : AE} [MoG ag] [MoT ft] [MoE fa] {e0 : Ev} {stay : Sto → Prop} {X : XQ} {stp stp' : α → W → (α → Prop) → Sto → Prop} {Fin Fin' : α → Sto → Prop} (ks : ∀ a w (N N' : α → Prop) s, (∀ a', N a' → N' a') → stp a w N s → stp' a w N' s) (kf : ∀ a s, Fin a s → Fin' a s) :
    ∀ {items : List W} {a : α} {σ : Sto}, gnGo ag ft fa e0 stay X stp Fin items a σ → gnGo ag ft fa e0 stay X stp' Fin' items a σ
  | [], _, _, ⟨h, q⟩ => ⟨h, kf _ _ q⟩
  | w :: r, a, _, ⟨h, q⟩ => ⟨h, MoG.mo (g := ag) (fun _ _ q => MoT.mo (f := ft) (fun _ _ q => ite_mo (MoE.mo (f := fa) fun _ _ q => ks _ _ _ _ _ (fun _ q => gnGo_mo ks kf q) q) (gnGo_mo ks kf) q) q) q⟩
instance {ai : AI} {ag : AG} {ft : AT} {fa : AE} [MoI ai] [MoG ag] [MoT ft] [MoE fa] {vs : List Nat} {go : Bool} : MoE (aAllG ai ag ft fa vs go) := ⟨fun k q => MoI.mo (f := ai) (fun _ _ _ q => gnGo_mo (fun _ _ _ _ _ kn ⟨b, h, q⟩ => ⟨b, h, ite_mo (kn _) (k _ _) q⟩) (fun _ _ q => k _ _ q) q) q⟩
abbrev chW (l : List Ch) : List W := l.map fun c => .d (Mw.chD c)
theorem pures_ch : ∀ l : List Ch, pures (chW l) = some (l.map Mw.chD)
  | [] => rfl
  | c :: l => by show (pures (chW l)).map _ = _; rw [pures_ch l]; rfl
def fWo : AF := fun ws σ Q _ => ∃ M nms, ws = [.d (ledD M), .d (.tuple (nms.map nmD))] ∧ M.length ≤ 50 ∧ nms.length ≤ 200 ∧ Q (.d (ledD (wout (gather nms) M))) σ
instance : MoF fWo := ⟨fun k ⟨M, nms, h1, h2, h3, q⟩ => ⟨M, nms, h1, h2, h3, k _ _ q⟩⟩
theorem wo_ok : ∀ ws σ Q X, fWo ws σ Q X → aFn 7 pWo ws σ (fun w σ' => Told σ.length σ σ' w Q) X := by
  rintro ws σ Q X ⟨M, nms, rfl, m50, n200, q⟩
  generalize hQ : (fun w σ' => Told σ.length σ σ' w Q) = Q'
  have key : ∀ {j : Sto}, Q' (.d (ledD (wout (gather nms) M))) (σ ++ j) := fun {j} => by rw [← hQ]; exact told_d q
  clear hQ q
  and_intros
  with_reducible refine r_dcT ?_
  and_intros
  have eit : (nms.map nmD).map W.d = nmW nms := by simp [nmW]
  rw [eit]
  refine dc_run (fun i acc s => s = σ ∧ acc = kvY (gather (nms.take i))) (fun i acc s h => by rw [h.1]) ⟨rfl, rfl⟩ (fun i w acc s Rest hw h k => ?_) fun acc s h => ?_
  · obtain ⟨rfl, rfl⟩ := h
    rw [List.getElem?_map] at hw
    obtain ⟨m, hm, rfl⟩ := Option.map_eq_some_iff.mp hw
    have hgl : (gather (nms.take i)).length ≤ 200 := by
      have := nodup_len (gather_nodup (nms.take i)) (m := nms) fun x hx => List.mem_of_mem_take (mem_gather.mp hx)
      omega
    refine ⟨True.intro, ?_⟩
    and_intros
    refine ⟨nmD m, _, rfl, rfl, px_j0, small (by rw [List.length_map]; omega), ?_⟩
    rw [px_s0, put_Y, ← gather_snoc, ← take_snoc hm]
    exact k _ _ ⟨rfl, rfl⟩
  obtain ⟨rfl, rfl⟩ := h
  rw [List.length_map, List.take_length]
  refine ⟨True.intro, ?_⟩
  have g200 : (gather nms).length ≤ nms.length := nodup_len (gather_nodup nms) fun x hx => mem_gather.mp hx
  with_reducible refine r_agN ?_
  with_reducible refine r_seq ?_
  with_reducible refine r_asg ?_
  refine cutE (fun w t => w = .ref (s.length + 1) ∧ t = s ++ [.dct true (kvY (gather nms)), .lst (chW [])]) (by and_intros; exact ⟨Nat.zero_le _, by simp, by simp⟩) fun w t hw => ?_
  obtain ⟨rfl, rfl⟩ := hw
  and_intros
  have eit : (M.map Mw.chD).map W.d = chW M := by simp [chW]
  rw [eit]
  refine loop_run (fun i e t => ∃ g D v3 v5 v6, e = [some (.d (ledD M)), some (.d (.tuple (nms.map nmD))), some (.ref s.length), v3, some (.ref (s.length + 1)), v5, v6] ∧ t = s ++ [.dct true (kvY g), .lst (chW D)] ∧ D ++ wout g (M.drop i) = wout (gather nms) M ∧ g.length ≤ 200 + i ∧ D.length ≤ i)
    ⟨gather nms, [], _, _, _, rfl, rfl, rfl, by omega, Nat.le_refl _⟩ (fun i w e t Rest hw h k => ?_) fun e t h => ?_
  · obtain ⟨g, D, v3, v5, v6, rfl, rfl, eD, gl, Dl⟩ := h
    rw [List.getElem?_map] at hw
    obtain ⟨c, hc, rfl⟩ := Option.map_eq_some_iff.mp hw
    have hiM : i < M.length := (List.getElem?_eq_some_iff.mp hc).1
    have edr : M.drop i = c :: M.drop (i + 1) := by
      rw [List.drop_eq_getElem_cons hiM]
      rw [List.getElem?_eq_getElem hiM] at hc
      cases hc
      rfl
    rw [edr] at eD
    have hp : prsOf (s ++ [.dct true (kvY g), .lst (chW D)]) (.ref s.length) = some (kvY g) := by simp only [prsOf, px_j0]; rfl
    refine ⟨True.intro, ?_⟩
    with_reducible refine r_agN ?_
    with_reducible refine r_ifS ?_
    refine cutT (fun b t => t = s ++ [.dct true (kvY g), .lst (chW D)] ∧ b = hit g c) ?_ fun b t hb => ?_
    · and_intros
      refine r_ixT (x := nmD c.nm) at0 ?_
      and_intros
      refine r_inD hp (kc_Y _ _) ?_
      rw [get_Y]
      and_intros
      by_cases hin : c.nm ∈ g
      · rw [if_pos hin]
        refine r_iteB (fun _ => ?_) fun h => by simp at h
        exact ⟨rfl, by unfold hit; rw [decide_eq_true hin]; rfl⟩
      · rw [if_neg hin]
        refine r_iteB (fun h => by simp at h) fun _ => ?_
        and_intros
        with_reducible refine r_allG ?_
        and_intros
        refine r_ixT (x := .tuple (c.base.map nmD)) rfl ?_
        and_intros
        have eit : (c.base.map nmD).map W.d = nmW c.base := by simp [nmW]
        rw [eit]
        refine gn_run (fun i _ t => t = s ++ [.dct true (kvY g), .lst (chW D)] ∧ ∀ b ∈ c.base.take i, b ∉ g) ⟨rfl, fun b hb => by simp at hb⟩ (fun i w a t Rest hw h k => ?_) fun a t h => ?_
        · obtain ⟨rfl, ha⟩ := h
          rw [List.getElem?_map] at hw
          obtain ⟨m, hm, rfl⟩ := Option.map_eq_some_iff.mp hw
          refine ⟨True.intro, ?_⟩
          and_intros
          refine r_inD hp (kc_Y _ _) ?_
          rw [get_Y]
          by_cases hmg : m ∈ g
          · rw [if_pos hmg]
            refine ⟨true, rfl, ?_⟩
            rw [if_neg (by decide)]
            refine r_tbool ⟨rfl, ?_⟩
            unfold hit
            rw [List.any_eq_true.mpr ⟨true, List.mem_map.mpr ⟨m, List.mem_of_getElem? hm, decide_eq_true hmg⟩, rfl⟩, Bool.or_true]
          · rw [if_neg hmg]
            refine ⟨false, rfl, ?_⟩
            rw [if_pos rfl]
            refine k _ _ ⟨rfl, fun b hb => ?_⟩
            rw [take_snoc hm] at hb
            rcases List.mem_append.mp hb with h | h
            · exact ha b h
            · rw [List.mem_singleton.mp h]; exact hmg
        · obtain ⟨rfl, ha⟩ := h
          rw [List.length_map, List.take_length] at ha
          refine ⟨True.intro, ?_⟩
          refine r_tbool ⟨rfl, ?_⟩
          unfold hit
          rw [decide_eq_false hin, Bool.false_or]
          refine (List.any_eq_false.mpr fun x hx => ?_).symm
          obtain ⟨b, hb, rfl⟩ := List.mem_map.mp hx
          simp [ha b hb]
    obtain ⟨rfl, rfl⟩ := hb
    refine r_iteB (fun hh => ?_) fun hh => ?_
    · rw [wout_hit hh] at eD
      and_intros
      refine r_ixT (x := nmD c.nm) at0 ?_
      refine r_put px_j0 rfl (small (by rw [List.length_map]; omega)) ?_
      rw [px_s0, put_Y]
      have := ins_len g c.nm
      exact k _ _ ⟨ins g c.nm, D, _, _, _, rfl, rfl, eD, by omega, by omega⟩
    · rw [wout_no hh] at eD
      and_intros
      refine r_tyC (px_j (k := 1)) ?_
      and_intros
      refine r_append (px_j (k := 1)) (small (by rw [List.length_map]; omega)) ?_
      rw [px_s]
      exact k _ _ ⟨g, D ++ [c], _, _, _, rfl, by simp [chW], by rw [List.append_assoc]; exact eD, by omega, by simp; omega⟩
  · obtain ⟨g, D, v3, v5, v6, rfl, rfl, eD, gl, Dl⟩ := h
    rw [List.length_map, List.drop_length, wout, List.append_nil] at eD
    refine ⟨True.intro, ?_⟩
    and_intros
    refine ⟨_, chW D, D.map Mw.chD, rfl, by simp only [itemsOf, px_j]; rfl, pures_ch D, ?_⟩
    rw [eD]
    exact key
end Lw

set_option maxHeartbeats 4000000
/-! AwG: insert, pop of lists that are cells. -/
namespace Aw
open PySem PySem.Spec PyProof.Rows L2 Mw
variable {Z : Zx} {X : Cx}
theorem paired_take {α β : Type} {R : α → β → Prop} : ∀ {l : List α} {m : List β} (n : Nat), Paired R l m → Paired R (l.take n) (m.take n)
  | _, _, 0, _ => by simp only [List.take_zero]; exact .nil
  | _, _, n + 1, .nil => by simp only [List.take_nil]; exact .nil
  | _, _, n + 1, .cons h t => by simp only [List.take_succ_cons]; exact .cons h (paired_take n t)
theorem paired_drop {α β : Type} {R : α → β → Prop} : ∀ {l : List α} {m : List β} (n : Nat), Paired R l m → Paired R (l.drop n) (m.drop n)
  | _, _, 0, h => by simpa using h
  | _, _, n + 1, .nil => by simp only [List.drop_nil]; exact .nil
  | _, _, n + 1, .cons h t => by simp only [List.drop_succ_cons]; exact paired_drop n t
theorem paired_at {α β : Type} {R : α → β → Prop} : ∀ {l : List α} {m : List β} {n : Nat} {y : β}, Paired R l m → m[n]? = some y → ∃ x, l[n]? = some x ∧ R x y
  | _, _, _, _, .nil, h => by simp at h
  | x :: _, _ :: _, 0, _, .cons h t, e => by simp at e; subst e; exact ⟨x, rfl, h⟩
  | _ :: _, _ :: _, n + 1, _, .cons h t, e => by
    obtain ⟨z, h1, h2⟩ := paired_at (n := n) t (by simpa using e)
    exact ⟨z, by simpa using h1, h2⟩
theorem paired_dl {α β : Type} {R : α → β → Prop} {l : List α} {m : List β} (h : Paired R l m) : Paired R l.dropLast m.dropLast := by
  rw [List.dropLast_eq_take, List.dropLast_eq_take, Paired.len h]
  exact paired_take _ h
theorem paired_er {α β : Type} {R : α → β → Prop} : ∀ {l : List α} {m : List β} (n : Nat), Paired R l m → Paired R (l.eraseIdx n) (m.eraseIdx n)
  | _, _, _, .nil => by simp only [List.eraseIdx_nil]; exact .nil
  | _, _, 0, .cons h t => by simpa using t
  | _, _, n + 1, .cons h t => by simp only [List.eraseIdx_cons_succ]; exact .cons h (paired_er n t)
/-! ### insert -/
def rInsertA : V → List V → Hp → VK → Prop := fun x vs H Q => ∃ (l : Addr) (xs : List V) (i : Int) (y : V), x = .ref l ∧ vs = [.int i, y] ∧ H l = some (.lst xs) ∧ xs.length < sizeLine ∧ 0 ≤ i ∧ i < 2 ^ 63 ∧
    Q .non (upd H l (.lst (xs.take i.toNat ++ [y] ++ xs.drop i.toNat)))
theorem mt_insertA : MtR X "list.insert" rInsertA := mt_insert
def insertW : W → List W → Sto → QK → Prop := fun a ws σ Q => ∃ j ys i y, a = .ref j ∧ ws = [.d (.int i), y] ∧ σ[j]? = some (.lst ys) ∧ ys.length < sizeLine ∧ 0 ≤ i ∧ i < 2 ^ 63 ∧ Q (.d .none) (σ.set j (.lst (ys.take i.toNat ++ [y] ++ ys.drop i.toNat)))
instance sim_insert : SimM Z rInsertA insertW := ⟨fun {ρ σ H x a xs ws Qa Q} rl va vs q kq => by
  obtain ⟨j, ys, i, y, rfl, rfl, hc, hl, h0, h1, q⟩ := q
  obtain ⟨ad, ha, rfl⟩ := va
  cases vs with
  | cons v1 v2 =>
    cases v2 with
    | cons vy v3 =>
      cases v3
      obtain ⟨zs, e1, e2⟩ := rl.cell j ad _ ha hc
      have e : ∀ {v}, WR Z.K ρ H v (.d (.int i)) → v = .int i := fun h => h.int
      rw [e v1]
      rename_i vv
      refine ⟨ad, zs, i, vv, rfl, rfl, e1, by rw [Paired.len e2]; exact hl, h0, h1, ?_⟩
      have gp : Go Z.T ρ H ρ (upd H ad (.lst (zs.take i.toNat ++ [vv] ++ zs.drop i.toNat))) := Go.put (List.mem_of_getElem? ha) e1
      exact kq.d gp (rl.put (c := .lst (ys.take i.toNat ++ [y] ++ ys.drop i.toNat)) ha ⟨_, upd_same, gp.wrs rl (paired_app (paired_app (paired_take _ e2) (.cons vy .nil)) (paired_drop _ e2))⟩) Rp.non q⟩
instance : MoM insertW := ⟨fun k ⟨j, ys, i, y, h1, h2, h3, h4, h5, h6, q⟩ => ⟨j, ys, i, y, h1, h2, h3, h4, h5, h6, k _ _ q⟩⟩
theorem r_insert {σ : Sto} {j : Nat} {ws : List W} {i : Int} {w : W} {Q : QK} (hc : σ[j]? = some (.lst ws)) (hl : ws.length < sizeLine) (h0 : 0 ≤ i) (h1 : i < 2 ^ 63) (h : Q (.d .none) (σ.set j (.lst (ws.take i.toNat ++ [w] ++ ws.drop i.toNat)))) : insertW (.ref j) [.d (.int i), w] σ Q :=
  ⟨j, ws, i, w, rfl, rfl, hc, hl, h0, h1, h⟩
/-! ### pop -/
def popW : W → List W → Sto → QK → Prop := fun a ws σ Q => ∃ j ys y, a = .ref j ∧ ws = [] ∧ σ[j]? = some (.lst ys) ∧ ys[ys.length - 1]? = some y ∧ Q y (σ.set j (.lst ys.dropLast))
instance sim_pop : SimM Z rPop popW := ⟨fun {ρ σ H x a xs ws Qa Q} rl va vs q kq => by
  obtain ⟨j, ys, y, rfl, rfl, hc, hy, q⟩ := q
  obtain ⟨ad, ha, rfl⟩ := va
  cases vs
  obtain ⟨zs, e1, e2⟩ := rl.cell j ad _ ha hc
  obtain ⟨z, hz, rz⟩ := paired_at e2 hy
  have gp : Go Z.T ρ H ρ (upd H ad (.lst zs.dropLast)) := Go.put (List.mem_of_getElem? ha) e1
  refine ⟨ad, zs, z, rfl, rfl, e1, by rw [Paired.len e2]; exact hz, ?_⟩
  exact kq _ _ _ _ y gp (rl.put (c := .lst ys.dropLast) ha ⟨_, upd_same, gp.wrs rl (paired_dl e2)⟩) (gp.wr rl rz) q⟩
instance : MoM popW := ⟨fun k ⟨j, ys, y, h1, h2, h3, h4, q⟩ => ⟨j, ys, y, h1, h2, h3, h4, k _ _ q⟩⟩
def popAtW : W → List W → Sto → QK → Prop := fun a ws σ Q => ∃ j ys i k y, a = .ref j ∧ ws = [.d (.int i)] ∧ σ[j]? = some (.lst ys) ∧ -(2 ^ 63) ≤ i ∧ i < 2 ^ 63 ∧ seqIndex? i ys.length = some k ∧ ys[k]? = some y ∧ Q y (σ.set j (.lst (ys.eraseIdx k)))
instance sim_popAt : SimM Z rPopAt popAtW := ⟨fun {ρ σ H x a xs ws Qa Q} rl va vs q kq => by
  obtain ⟨j, ys, i, k, y, rfl, rfl, hc, h0, h1, hk, hy, q⟩ := q
  obtain ⟨ad, ha, rfl⟩ := va
  obtain ⟨v, rfl, vw⟩ := wrs1 vs
  obtain ⟨zs, e1, e2⟩ := rl.cell j ad _ ha hc
  obtain ⟨z, hz, rz⟩ := paired_at e2 hy
  have gp : Go Z.T ρ H ρ (upd H ad (.lst (zs.eraseIdx k))) := Go.put (List.mem_of_getElem? ha) e1
  have e : ∀ {v}, WR Z.K ρ H v (.d (.int i)) → v = .int i := fun h => h.int
  rw [e vw]
  refine ⟨ad, zs, i, k, z, rfl, rfl, e1, h0, h1, by rw [Paired.len e2]; exact hk, hz, ?_⟩
  exact kq _ _ _ _ y gp (rl.put (c := .lst (ys.eraseIdx k)) ha ⟨_, upd_same, gp.wrs rl (paired_er k e2)⟩) (gp.wr rl rz) q⟩
instance : MoM popAtW := ⟨fun k ⟨j, ys, i, m, y, h1, h2, h3, h4, h5, h6, h7, q⟩ => ⟨j, ys, i, m, y, h1, h2, h3, h4, h5, h6, h7, k _ _ q⟩⟩
/-! ### a list times a number -/
theorem rpAll_rep {K : PySem.W.Frag} {ρ : List Addr} {H : Hp} {xs : List V} {ds : List PyData} (h : RpAll K ρ H xs ds) : ∀ n : Nat, RpAll K ρ H (List.replicate n xs).flatten (List.replicate n ds).flatten
  | 0 => .nil
  | n + 1 => by
    rw [List.replicate_succ, List.replicate_succ, List.flatten_cons, List.flatten_cons]
    exact rpAll_app h (rpAll_rep h n)
def repW : W → W → Sto → QK → Prop := fun a b σ Q => ∃ i ws ds n, a = .ref i ∧ b = .d (.int n) ∧ σ[i]? = some (.lst ws) ∧ pures ws = some ds ∧ 0 ≤ n ∧ n ≤ 1000 ∧ ws.length * n.toNat ≤ sizeLine ∧ Q (.d (.list (List.replicate n.toNat ds).flatten)) σ
instance sim_rep : SimR2 Z rRep repW := ⟨fun {ρ σ H x y a b Qa Q} rl va vb q kq => by
  obtain ⟨i, ws, ds, n, rfl, rfl, hc, hp, h0, h1, hl, q⟩ := q
  obtain ⟨ad, ha, rfl⟩ := va
  obtain ⟨zs, e1, e2⟩ := rl.cell i ad _ ha hc
  have e : ∀ {v}, WR Z.K ρ H v (.d (.int n)) → v = .int n := fun h => h.int
  rw [e vb]
  exact ⟨ad, n, zs, rfl, rfl, e1, by omega, by omega, by rw [Paired.len e2]; exact hl, fun p np => kq.layL rl np (rpAll_rep (pures_rp e2 hp) n.toNat) q⟩⟩
instance : Mo2 repW := ⟨fun k ⟨i, ws, ds, n, h1, h2, h3, h4, h5, h6, h7, q⟩ => ⟨i, ws, ds, n, h1, h2, h3, h4, h5, h6, h7, k _ _ q⟩⟩
theorem r_rep {σ : Sto} {i : Nat} {ws : List W} {ds : List PyData} {n : Int} {Q : QK} (hc : σ[i]? = some (.lst ws)) (hp : pures ws = some ds) (h0 : 0 ≤ n) (h1 : n ≤ 1000) (hl : ws.length * n.toNat ≤ sizeLine) (q : Q (.d (.list (List.replicate n.toNat ds).flatten)) σ) : repW (.ref i) (.d (.int n)) σ Q := ⟨i, ws, ds, n, rfl, rfl, hc, hp, h0, h1, hl, q⟩
end Aw

set_option maxHeartbeats 4000000
/-! AwL: dicts that are walked: locked for a statement or an expression. -/
namespace Aw
open PySem PySem.Spec PyProof.Rows L2 Mw
section
variable {K : PySem.W.Frag} {T : Fx} {ρ ρ' : List Addr} {H H' : Hp} {σ σ' : Sto}
theorem Go0.er (r : Rel K T ρ σ H) (g : Go0 T ρ H ρ' H') {s : List (Option V)} {e : Ev} (h : ER K ρ H s e) : ER K ρ' H' s e := Paired.mapP h fun a b q => by
  cases a with
  | none => cases b with
    | none => exact q
    | some w => exact q
  | some v => cases b with
    | none => exact q
    | some w => exact Go0.wr r g (w := w) q
/-- a cell is locked -/
theorem Rel.lockC (r : Rel K T ρ σ H) {i : Nat} {t : Bool} {kvs : List (PyData × W)} (h : σ[i]? = some (.dct t kvs)) : ∃ a u, ρ[i]? = some a ∧ H a = some u ∧ Mut (some u) ∧ (t = false → ∃ hk, u = .dK hk) ∧ (t = true → ∃ hk, u = .dT hk) ∧
    ∀ od, Go T ρ H ρ (upd H a (.frz od u)) ∧ Rel K T ρ (σ.set i (.lck t kvs)) (upd H a (.frz od u)) := by
  obtain ⟨a, ha, c⟩ := r.at_ h
  have hm := List.mem_of_getElem? ha
  cases t with
  | false =>
    obtain ⟨hk, e1, e2⟩ := c
    refine ⟨a, .dK hk, ha, e1, True.intro, fun _ => ⟨hk, rfl⟩, (fun z => by cases z), fun od => ?_⟩
    have g : Go T ρ H ρ (upd H a (.frz od (.dK hk))) := Go.put hm e1
    exact ⟨g, r.put (c := .lck false kvs) ha ⟨hk, ⟨od, upd_same⟩, g.prs r e2⟩⟩
  | true =>
    obtain ⟨hk, e1, e2⟩ := c
    refine ⟨a, .dT hk, ha, e1, True.intro, (fun z => by cases z), fun _ => ⟨hk, rfl⟩, fun od => ?_⟩
    have g : Go T ρ H ρ (upd H a (.frz od (.dT hk))) := Go.put hm e1
    exact ⟨g, r.put (c := .lck true kvs) ha ⟨hk, ⟨od, upd_same⟩, g.prs r e2⟩⟩
theorem Rel.unlockC (r : Rel K T ρ σ H) {i : Nat} {t : Bool} {kvs : List (PyData × W)} {a : Addr} {u : HO} {od : Obj} (h : σ[i]? = some (.lck t kvs)) (ha : ρ[i]? = some a) (e : H a = some (.frz od u)) : Go0 T ρ H ρ (upd H a u) ∧ Rel K T ρ (σ.set i (.dct t kvs)) (upd H a u) := by
  have c := r.cell i a _ ha h
  have hm := List.mem_of_getElem? ha
  have g : Go0 T ρ H ρ (upd H a u) := Go0.put hm e
  refine ⟨g, ?_⟩
  cases t with
  | false =>
    obtain ⟨hk, ⟨o, e1⟩, e2⟩ := c
    rw [e] at e1
    cases e1
    exact r.put (c := .dct false kvs) ha ⟨hk, upd_same, g.prs r e2⟩
  | true =>
    obtain ⟨hk, ⟨o, e1⟩, e2⟩ := c
    rw [e] at e1
    cases e1
    exact r.put (c := .dct true kvs) ha ⟨hk, upd_same, g.prs r e2⟩
theorem Go.around {a : Addr} {u : HO} {od : Obj} (hm : a ∈ ρ) (e : H a = some u) (mu : Mut (some u)) (g : Go T ρ (upd H a (.frz od u)) ρ' H') : Go T ρ H ρ' (upd H' a u) := by
  have nea : ∀ b, b ∉ ρ → b ≠ a := fun b n z => n (z ▸ hm)
  refine .mk' g.pre (fun b hb => ?_) (fun b o eb n1 n2 => ?_) (fun b hb => ?_) fun b o x eb => ?_
  · rcases g.new b hb with h | h
    · exact .inl h
    · by_cases q : b = a
      · subst q; exact .inl hm
      · rw [upd_ne q] at h; exact .inr h
  · have q := nea b n1
    rw [upd_ne q]
    exact g.keep b o (by rw [upd_ne q]; exact eb) n1 n2
  · by_cases q : b = a
    · subst q; rw [upd_same] at hb; cases hb
    · rw [upd_ne q] at hb
      have := g.th b hb
      rwa [upd_ne q] at this
  · have q : b ≠ a := fun q => by subst q; rw [e] at eb; cases eb; exact mu
    rw [upd_ne q]
    exact g.lk b o x (by rw [upd_ne q]; exact eb)
end
theorem CalG.as {P : Program} {w : World} {Z : Zx} {mg : Str → Option Value} {base : Heap} {x : Str} {k : Nat} {ps : List Str} {mf mf' : AF} (c : CalG P w Z mg base x k ps mf) (h : ∀ ws σ Q X, mf' ws σ Q X → mf ws σ Q X) : CalG P w Z mg base x k ps mf' := by
  have imp : ∀ vs H Q E, spA Z ps.length mf' vs H Q E → spA Z ps.length mf vs H Q E := fun vs H Q E ⟨hl, ρ, σ, ws, Qa, Ea, r, v, q, kq, kx⟩ => ⟨hl, ρ, σ, ws, Qa, Ea, r, v, h _ _ _ _ q, kq, kx⟩
  obtain ⟨f, fd, h1, h2, h3, h4⟩ := c.ex
  exact ⟨f, fd, h1, h2, h3, ⟨fun vs H Q E q => h4.len vs H Q E (imp _ _ _ _ q), fun A outer s H args us vs Q E hr hg he hb hv hs => h4.run A outer s H args us vs Q E hr hg he hb hv (imp _ _ _ _ hs)⟩⟩
def aLockS (b : AS) : AS := fun k e σ => ∃ i t kvs, σ[i]? = some (.dct t kvs) ∧ b { nx := fun e' σ' => σ'[i]? = some (.lck t kvs) ∧ k.nx e' (σ'.set i (.dct t kvs)), rt := fun w σ' => σ'[i]? = some (.lck t kvs) ∧ k.rt w (σ'.set i (.dct t kvs)), ex := fun _ _ _ => False } e (σ.set i (.lck t kvs))
def aLockE (b : AE) : AE := fun e σ Q X => ∃ i t kvs, σ[i]? = some (.dct t kvs) ∧ b e (σ.set i (.lck t kvs)) (fun w σ' => σ'[i]? = some (.lck t kvs) ∧ Q w (σ'.set i (.dct t kvs))) (fun _ _ => False)
section
variable {Z : Zx} {E : L2.St → XK} {ta : TE} {fa : AE} {ts : TS} {sa : AS}
instance sim_lockS [i1 : SimS Z E ts sa] : SimS Z E (tLock ts) (aLockS sa) := ⟨fun {ρ σ H s e k D} r er h kn kr kx => by
  obtain ⟨i, t, kvs, hc, h⟩ := h
  obtain ⟨a, u, ha, ea, mu, _, _, hg⟩ := r.lockC hc
  have hm := List.mem_of_getElem? ha
  refine ⟨a, u, ea, mu, fun od => ?_⟩
  obtain ⟨g, r1⟩ := hg od
  refine i1.sim r1 (g.er r er) h (fun ρ' σ' H' s' e' g' r' er' q => ?_) (fun ρ' σ' H' v w g' r' vw q => ?_) (fun _ _ _ _ _ _ _ _ _ _ _ _ q => q.elim)
  · have e2 := g'.lk a od u upd_same
    obtain ⟨g0, r2⟩ := r'.unlockC q.1 (g'.at_ ha) e2
    exact ⟨e2, kn _ _ _ _ _ (Go.around hm ea mu g') r2 (g0.er r' er') q.2⟩
  · have e2 := g'.lk a od u upd_same
    obtain ⟨g0, r2⟩ := r'.unlockC q.1 (g'.at_ ha) e2
    exact ⟨e2, kr _ _ _ _ _ (Go.around hm ea mu g') r2 (g0.wr r' vw) q.2⟩⟩
instance sim_lockE [i1 : SimE Z E ta fa] : SimE Z E (tLockE ta) (aLockE fa) := ⟨fun {ρ σ H s e Qa Ea Q} r er h kq kx => by
  obtain ⟨i, t, kvs, hc, h⟩ := h
  obtain ⟨a, u, ha, ea, mu, _, _, hg⟩ := r.lockC hc
  have hm := List.mem_of_getElem? ha
  refine ⟨a, u, ea, mu, fun od => ?_⟩
  obtain ⟨g, r1⟩ := hg od
  refine i1.sim r1 (g.er r er) h (fun ρ' σ' H' v w g' r' vw q => ?_) (fun _ _ _ _ _ _ _ _ _ q => q.elim)
  have e2 := g'.lk a od u upd_same
  obtain ⟨g0, r2⟩ := r'.unlockC q.1 (g'.at_ ha) e2
  exact ⟨e2, kq _ _ _ _ _ (Go.around hm ea mu g') r2 (g0.wr r' vw) q.2⟩⟩
theorem r_lockS {k : AK} {e : Ev} {σ : Sto} {i : Nat} {t : Bool} {kvs : List (PyData × W)} (hc : σ[i]? = some (.dct t kvs)) (h : sa { nx := fun e' σ' => σ'[i]? = some (.lck t kvs) ∧ k.nx e' (σ'.set i (.dct t kvs)), rt := fun w σ' => σ'[i]? = some (.lck t kvs) ∧ k.rt w (σ'.set i (.dct t kvs)), ex := fun _ _ _ => False } e (σ.set i (.lck t kvs))) : aLockS sa k e σ := ⟨i, t, kvs, hc, h⟩
theorem r_lockE {e : Ev} {σ : Sto} {Q : QK} {X : XQ} {i : Nat} {t : Bool} {kvs : List (PyData × W)} (hc : σ[i]? = some (.dct t kvs)) (h : fa e (σ.set i (.lck t kvs)) (fun w σ' => σ'[i]? = some (.lck t kvs) ∧ Q w (σ'.set i (.dct t kvs))) (fun _ _ => False)) : aLockE fa e σ Q X := ⟨i, t, kvs, hc, h⟩
theorem r_itK {R : List W → (Sto → Prop) → Sto → Prop} {σ : Sto} {i : Nat} {t : Bool} {kvs : List (PyData × W)} (h : σ[i]? = some (.lck t kvs)) (q : R (kvs.map fun p => .d p.1) (fun σ' => σ'[i]? = some (.lck t kvs)) σ) : itW σ R (.ref i) := .inr ⟨t, kvs, h, q⟩
end
end Aw

set_option maxHeartbeats 4000000
namespace Mw
open PySem PySem.Spec PyProof.Rows L2
/-! ### {k: v for x in .. for y in ..}, keys tuples -/
abbrev dcE (kx vx ta ia : Expr) (fa : List Expr) (tb ib : Expr) (fb : List Expr) (sc : Scope) (p : Pos) : Expr := .DictComp kx vx [⟨ta, ia, fa, 0⟩, ⟨tb, ib, fb, 0⟩] sc p
abbrev tstL (fs : List Expr) (ev : Env) : Sem Bool := forIn fs true fun c r => if r = true then do let ok ← isTrue c ev (eval c ev); pure (ForInStep.yield ok) else pure (ForInStep.yield r)
theorem dcT0 (kx vx ta ia tb ib : Expr) (fa fb : List Expr) (sc : Scope) (p : Pos) (it : Value) (D : Addr) (ev : Env) : compTurn (dcE kx vx ta ia fa tb ib fb sc p) 0 it (.ref D) ev = (do
    standAt ia.pos
    match ← pyNext it with
    | none => pure (.done .next)
    | some v =>
      letOwnedTupleGo ta it v
      assign ta ev v
      let mut ok := true
      for c in fa do
        if ok then ok ← isTrue c ev (eval c ev)
      if ok then
        let x ← eval ib ev
        standAt ib.pos
        let x ← foldedSetIterable ib ev x
        let _ ← runOwn (.compStart (dcE kx vx ta ia fa tb ib fb sc p) 1 (← holding [x] (pyIter x)) (.ref D) ev) ev
      again (.compLoop (dcE kx vx ta ia fa tb ib fb sc p) 0 it (.ref D) ev)) := by rfl
theorem dcT1 (kx vx ta ia tb ib : Expr) (fa fb : List Expr) (sc : Scope) (p : Pos) (it : Value) (D : Addr) (ev : Env) : compTurn (dcE kx vx ta ia fa tb ib fb sc p) 1 it (.ref D) ev = (do
    standAt ib.pos
    match ← pyNext it with
    | none => pure (.done .next)
    | some v =>
      letOwnedTupleGo tb it v
      assign tb ev v
      let mut ok := true
      for c in fb do
        if ok then ok ← isTrue c ev (eval c ev)
      if ok then
        (do
          let kv ← eval kx ev
          let vv ← holding [kv] (eval vx ev)
          standAt { kx.pos with endLine := vx.pos.endLine, endCol := vx.pos.endCol }
          holding [kv, vv] (dictSet D kv vv))
      again (.compLoop (dcE kx vx ta ia fa tb ib fb sc p) 1 it (.ref D) ev)) := by rfl
section
variable {P : Program} {w : World} {A : Around} {R : Result → Shared → Prop} {s : Shared} {kx vx ta ia tb ib : Expr} {fa fb : List Expr} {sc : Scope} {p : Pos} {it : Value} {D : Addr} {ev : Env}
abbrev nB (P : Program) (w : World) (A : Around) (ev : Env) (R : Result → Shared → Prop) := notedBy (model P w) A ev fun e s' => R (.error e) s'
theorem dcL0 (hs : ∀ x, foldedSetIterable ib ev x = pure x) (I : Nat → Shared → Prop)
    (turn : ∀ n s, I n s → wpAny (model P w) A (pyNext it) (fun r s1 => match r with
      | none => R (.ok .next) s1
      | some v => wpAny (model P w) A (letOwnedTupleGo ta it v) (fun _ sa => wpAny (model P w) A (assign ta ev v) (fun _ s2 => wpAny (model P w) A (tstL fa ev) (fun ok s3 =>
          if ok = true then wpAny (model P w) A (eval ib ev) (fun x s4 => wpAny (model P w) A (pyIter x) (fun i1 s5 => codeAny (model P w) A (.compStart (dcE kx vx ta ia fa tb ib fb sc p) 1 i1 (.ref D) ev) (fun r s' => match r with
              | .ok _ => ∃ m, m < n ∧ I m s'
              | .error _ => False) s5) (nB P w A ev R) s4) (nB P w A ev R) s3
          else ∃ m, m < n ∧ I m s3) (nB P w A ev R) s2) (nB P w A ev R) sa) (nB P w A ev R) s1) (nB P w A ev R) s)
    (n : Nat) (h : I n s) : codeAny (model P w) A (.compLoop (dcE kx vx ta ia fa tb ib fb sc p) 0 it (.ref D) ev) R s := by
  refine codeAny_loop rfl I (fun n s hI => ?_) n h
  show wpAny _ A ((compTurn (dcE kx vx ta ia fa tb ib fb sc p) 0 it (.ref D) ev).onRaise fun x => do noteFrame x ev; theTreesLotGoes x) _ _ s
  refine wpAny_noted ?_
  rw [dcT0]
  refine wpAny_bind (wpAny_standAt (wpAny_bind (wpAny_mono (turn n s hI) (fun r s1 h1 => ?_) fun _ _ z => z)))
  cases r with
  | none => exact wpAny_pure h1
  | some v =>
    refine wpAny_bind (wpAny_mono h1 (fun _ sa ha => wpAny_bind (wpAny_mono ha (fun _ s2 h2 => wpAny_bind (wpAny_mono h2 (fun ok s3 h3 => ?_) fun _ _ z => z)) fun _ _ z => z)) fun _ _ z => z)
    cases ok with
    | false => exact wpAny_pure ⟨rfl, h3⟩
    | true =>
      refine wpAny_bind (wpAny_mono h3 (fun x s4 h4 => wpAny_bind (wpAny_standAt (wpAny_bind (wpAny_of_eq (hs x) (wpAny_bind (wpAny_holding (wpAny_mono h4 (fun i1 s5 h5 => wpAny_bind (wpAny_runOwn ?_)) fun _ _ z => z))))))) fun _ _ z => z)
      rw [Around.mark_none]
      refine codeAny_mono h5 fun r s' hr => ?_
      cases r with
      | error e => exact hr.elim
      | ok f => first | exact wpAny_pure ⟨rfl, hr⟩ | exact wpAny_bind (wpAny_pure (wpAny_pure ⟨rfl, hr⟩))
theorem dcL1 (I : Nat → Shared → Prop)
    (turn : ∀ n s, I n s → wpAny (model P w) A (pyNext it) (fun r s1 => match r with
      | none => R (.ok .next) s1
      | some v => wpAny (model P w) A (letOwnedTupleGo tb it v) (fun _ sa => wpAny (model P w) A (assign tb ev v) (fun _ s2 => wpAny (model P w) A (tstL fb ev) (fun ok s3 =>
          if ok = true then wpAny (model P w) A (eval kx ev) (fun kv s4 => wpAny (model P w) A (eval vx ev) (fun vv s5 => wpAny (model P w) A (dictSet D kv vv) (fun _ s6 => ∃ m, m < n ∧ I m s6) (nB P w A ev R) s5) (nB P w A ev R) s4) (nB P w A ev R) s3
          else ∃ m, m < n ∧ I m s3) (nB P w A ev R) s2) (nB P w A ev R) sa) (nB P w A ev R) s1) (nB P w A ev R) s)
    (n : Nat) (h : I n s) : codeAny (model P w) A (.compLoop (dcE kx vx ta ia fa tb ib fb sc p) 1 it (.ref D) ev) R s := by
  refine codeAny_loop rfl I (fun n s hI => ?_) n h
  show wpAny _ A ((compTurn (dcE kx vx ta ia fa tb ib fb sc p) 1 it (.ref D) ev).onRaise fun x => do noteFrame x ev; theTreesLotGoes x) _ _ s
  refine wpAny_noted ?_
  rw [dcT1]
  refine wpAny_bind (wpAny_standAt (wpAny_bind (wpAny_mono (turn n s hI) (fun r s1 h1 => ?_) fun _ _ z => z)))
  cases r with
  | none => exact wpAny_pure h1
  | some v =>
    refine wpAny_bind (wpAny_mono h1 (fun _ sa ha => wpAny_bind (wpAny_mono ha (fun _ s2 h2 => wpAny_bind (wpAny_mono h2 (fun ok s3 h3 => ?_) fun _ _ z => z)) fun _ _ z => z)) fun _ _ z => z)
    cases ok with
    | false => exact wpAny_pure ⟨rfl, h3⟩
    | true =>
      exact wpAny_bind (wpAny_bind (wpAny_mono h3 (fun kv s4 h4 => wpAny_bind (wpAny_holding (wpAny_mono h4 (fun vv s5 h5 => wpAny_bind (wpAny_standAt (wpAny_holding (wpAny_mono h5 (fun _ s6 h6 => wpAny_pure ⟨rfl, h6⟩) fun _ _ z => z)))) fun _ _ z => z))) fun _ _ z => z))
theorem dcS1 (h0 : codeAny (model P w) A (.compLoop (dcE kx vx ta ia fa tb ib fb sc p) 1 it (.ref D) ev) R s)
    (h : wpAny (model P w) A (pyIter it) (fun i s' => codeAny (model P w) A (.compLoop (dcE kx vx ta ia fa tb ib fb sc p) 1 i (.ref D) ev) R s') (nB P w A ev R) s) : codeAny (model P w) A (.compStart (dcE kx vx ta ia fa tb ib fb sc p) 1 it (.ref D) ev) R s := by
  refine codeAny_of_tree ?_
  show wpAny _ _ ((compStart (dcE kx vx ta ia fa tb ib fb sc p) 1 it (.ref D) ev).onRaise fun x => do noteFrame x ev; standAt theWindowsPlace) _ _ s
  refine wpAny_notedAt ?_
  unfold compStart
  show wpAny _ _ (ask >>= _) _ _ s
  refine wpAny_bind (wpAny_askSetting (wpAny_ite ?_))
  split
  · first | exact wpAny_bind (wpAny_pure (wpAny_pure ⟨rfl, h0⟩)) | exact wpAny_pure ⟨rfl, h0⟩
  · have go : wpAny (model P w) A (pyIter it) (fun i s' => wpAny (model P w) A (pure i : Sem Value) (fun i s' => codeAny (model P w) A (.compLoop (dcE kx vx ta ia fa tb ib fb sc p) 1 i (.ref D) ev) R s') (nB P w A ev R) s') (nB P w A ev R) s := wpAny_mono h (fun i s' z => wpAny_pure z) fun _ _ z => z
    first
      | exact wpAny_bind (wpAny_rule (wpAny_bind (wpAny_standAt (wpAny_bind (wpAny_mono h (fun i s' z => wpAny_pure ⟨rfl, z⟩) fun _ _ z => z)))))
      | (refine wpAny_bind (wpAny_rule ?_); show wpAny _ _ (standAt ib.pos >>= _) _ _ s; exact wpAny_bind (wpAny_standAt (wpAny_bind (wpAny_mono h (fun i s' z => wpAny_pure ⟨rfl, z⟩) fun _ _ z => z))))
end
/-- what its turns ask: D is the new dict; vs: the block's names, vs1: those of the second target -/
def tDc2 (wi : TI) (g : TG) (tt : TT) (wi1 : TI) (g1 : TG) (tt1 : TT) (tk tv : TE) (vs vs1 : List Nat) : TE := fun σ H Q => wi σ H fun J H1 => ∀ D, H1 D = none → ∃ W : Nat → Nat → Hp → Prop, (∃ m, W 0 m (upd H1 D (.dT []))) ∧ ∀ i m H, W i m H →
  (J.stop i H ∧ Q (.ref D) H) ∨ (J.go i H ∧ ∃ Nx : Hp → Prop, (∀ H', Nx H' → ∃ m', m' < m ∧ W (i + 1) m' H') ∧ ∀ x H', J.yld i H x H' → g x (wipe σ vs) H' fun σ2 H2 => wipe σ2 vs = wipe σ vs ∧ tt σ2 H2 fun b H3 => if b = true then wi1 σ2 H3 fun J1 H4 =>
      ∃ V : Nat → Nat → Hp → Prop, (∃ m, V 0 m H4) ∧ ∀ j k H, V j k H → (J1.stop j H ∧ Nx H) ∨ (J1.go j H ∧ ∃ Ny : Hp → Prop, (∀ H', Ny H' → ∃ k', k' < k ∧ V (j + 1) k' H') ∧ ∀ x H', J1.yld j H x H' → g1 x (wipe σ2 vs1) H' fun σ3 H5 => wipe σ3 vs1 = wipe σ2 vs1 ∧ tt1 σ3 H5 fun b H6 =>
        if b = true then tk σ3 H6 fun y H7 => tv σ3 H7 fun z H8 => ∃ kvs k b, y = .ref b ∧ H8 b = some (.tup (k.map kV)) ∧ H8 D = some (.dT kvs) ∧ kvs.length < sizeLine ∧ Ny (upd H8 D (.dT (putK kvs k z))) else Ny H6)
    else Nx H3)
abbrev Blk (X : Cx) (sc : Scope) (f : Cx → Prop) : Prop := ∀ (s : Shared) (H : Hp) (C : Addr) (cl : List (Str × Addr)) (fp : List Addr), f (X.blk s H sc (compEnvC sc cl C X.env) fp)
theorem pe_dc2 {X : Cx} {kx vx ta ia tb ib : Expr} {fa fb : List Expr} {sc : Scope} {p : Pos} {own : List (Str × Nat)} {vs1 : List Nat} {wi wi1 : TI} {g g1 : TG} {tt tt1 : TT} {tk tv : TE} (hu : X.A.units + 1 < cLine) (hc : X.calm = true) (hN : X.N.Nodup) (hi : PI X ta ia wi) (ok : BlkOk X.N X.env.scope sc own)
    (hv1 : ∀ i ∈ vs1, i ∈ own.map (·.2)) (hg : Blk X sc fun Y => PG Y ta g) (ht : Blk X sc fun Y => PTs Y fa tt) (hi1 : Blk X sc fun Y => PI Y tb ib wi1) (hg1 : Blk X sc fun Y => PG Y tb g1) (ht1 : Blk X sc fun Y => PTs Y fb tt1) (hk : Blk X sc fun Y => PE Y kx tk) (hv : Blk X sc fun Y => PE Y vx tv)
    (hs : ∀ x, foldedSetIterable ia X.env x = pure x := by intro _; rfl) (hs1 : ∀ env x, foldedSetIterable ib env x = pure x := by intro _ _; rfl) :
    PE X (dcE kx vx ta ia fa tb ib fb sc p) (tDc2 wi g tt wi1 g1 tt1 tk tv (own.map (·.2)) vs1) := by
  refine ⟨fun pins s σ H Q I h => ?_⟩
  rw [arm_eval_DictComp]
  have frees : ∀ y ∈ sc.names, y.2 = .free → ∃ c, X.env.cells.lookup y.1 = some c := fun y hy e => (ok.free y hy e).elim (fun k => I.ok.has _ (.inl k)) fun k => I.ok.has _ (.inr k)
  refine wpAny_comprehension_free rfl hs (closure_ok frees) ok.kind (fun y hy e => by rw [ok.uniq y hy, e]) (thn (hi.run pins s σ H _ I h) fun _ _ hx => thn hx fun _ s2 ⟨it, fp, tn, J, H2, e, I2, T, st2, f2, q⟩ => ?_)
  subst e
  refine wpAny_newObj_type (newEnv_comp ?_)
  obtain ⟨D, hD⟩ : ∃ D, D = s2.heap.objs.size := ⟨_, rfl⟩
  obtain ⟨W, ⟨m0, w0⟩, turn⟩ := q D (I2.hok.fresh (Nat.le_of_eq hD.symm))
  obtain ⟨s3, hs3⟩ : ∃ s3 : Shared, s3 = { s2 with heap := s2.heap.push { cls := .type "dict", data := .dict #[] } } := ⟨_, rfl⟩
  obtain ⟨H3, hH3⟩ : ∃ H3, H3 = upd H2 D (.dT []) := ⟨_, rfl⟩
  rw [← hH3] at w0
  have keep3 : ∀ b o, s2.heap.get? b = some o → s3.heap.get? b = some o := fun b o e => by rw [hs3]; exact Heap.get?_push_of_some _ e
  have I3 : Inv X pins σ H3 s3 := by
    rw [hs3, hH3, hD]
    exact I2.laid (t' := s2.toks) (fun b o e => Heap.get?_push_of_some _ e) (Nat.le_refl _) (dt_empty s2.heap I2.big)
  have f3 : ∀ b ∈ fp, FpOk X pins H3 b ∧ b < s3.heap.objs.size := fun b hb => by
    obtain ⟨o, e, _⟩ := T.obj _ _ st2 b hb
    have hlt := Heap.lt_size e
    refine ⟨⟨?_, (f2 b hb).2⟩, Heap.lt_size (keep3 b o e)⟩
    rw [hH3, upd_ne (by rw [hD]; exact Nat.ne_of_lt hlt)]
    exact (f2 b hb).1
  have I4 := block_start I3 ok hN f3
  have st3 : tn 0 s3.heap := T.keep _ _ _ st2 fun b _ o e => keep3 b o e
  obtain ⟨cl, hcl⟩ : ∃ cl, cl = cellsFrom (s3.heap.objs.size + 1) sc.names (cloFrom X.env.cells sc.names []) := ⟨_, rfl⟩
  have pg := hg s3 H3 s3.heap.objs.size cl fp
  have pt := ht s3 H3 s3.heap.objs.size cl fp
  have pj := hi1 s3 H3 s3.heap.objs.size cl fp
  have ph := hg1 s3 H3 s3.heap.objs.size cl fp
  have pu := ht1 s3 H3 s3.heap.objs.size cl fp
  have pk := hk s3 H3 s3.heap.objs.size cl fp
  have pv := hv s3 H3 s3.heap.objs.size cl fp
  have nfp : ∀ b ∈ fp, H3 b = none := fun b hb => (f3 b hb).1.1
  rw [← hcl] at I4
  obtain ⟨ce, hce⟩ : ∃ ce, ce = compEnvC sc cl s3.heap.objs.size X.env := ⟨_, rfl⟩
  obtain ⟨s4, hs4⟩ : ∃ s4 : Shared, s4 = { s3 with heap := pushCells (s3.heap.push { cls := .type "dict", data := .dict #[] }) sc.names } := ⟨_, rfl⟩
  rw [← hce] at I4 pg pt pk pv pj ph pu
  rw [← hs4] at I4
  have cL : ce.locals = s3.heap.objs.size := by rw [hce]; rfl
  suffices goal' : codeAny (model X.prog X.w) X.A (.compStart (dcE kx vx ta ia fa tb ib fb sc p) 0 (.ref it) (.ref D) ce) (compPost (model X.prog X.w) X.A X.xe none (EP X pins σ Q) (.ref D) s3.heap.objs.size) s4 by
    rw [hce, hcl, hs4, hs3, hD] at goal'
    exact goal'
  have st4 : tn 0 s4.heap := T.keep _ _ _ st3 fun b _ o e => by rw [hs4]; exact pushCells_keeps _ _ _ _ (Heap.get?_push_of_some _ e)
  let Y := X.blk s3 H3 sc ce fp
  have own_ok : ∀ {σ' : L2.St} {H' : Hp} {s' : Shared}, Inv Y [] σ' H' s' → (∀ b ∈ fp, H' b = none) → ∀ b ∈ fp, FpOk Y [] H' b := fun {σ' H' s'} I' hn b hb =>
    ⟨hn b hb, (I'.ok.exf b hb).1, I'.ok.exfs b hb, .inl hb, fun x c e => (I'.ok.exf b hb).2 x c e, fun p hp => absurd (show p ∈ ([] : List (Addr × Obj)) ++ [] from hp) (by simp)⟩
  have loop : codeAny (model X.prog X.w) X.A (.compLoop (dcE kx vx ta ia fa tb ib fb sc p) 0 (.ref it) (.ref D) ce) (compPost (model X.prog X.w) X.A X.xe none (EP X pins σ Q) (.ref D) s3.heap.objs.size) s4 := by
    refine dcL0 (hs1 ce) (fun n s' => ∃ i H', Inv Y [] (wipe σ (own.map (·.2))) H' s' ∧ tn i s'.heap ∧ (∀ b ∈ fp, H' b = none) ∧ W i n H') ?_ m0 ⟨0, H3, I4, st4, nfp, w0⟩
    rintro n s5 ⟨i, H5, I5, st5, n5, w5⟩
    rcases turn i n H5 w5 with ⟨stop, qq⟩ | ⟨go, Nx, hNx, step⟩
    · refine thnF (T.done Y rfl rfl rfl hc i [] s5 _ H5 (fun _ _ => False) I5 (own_ok I5 n5) st5 stop) fun r s6 ⟨hr, I6⟩ => ?_
      subst hr
      have I7 : Inv X pins σ H5 s6 := I3.call' (ch := fp) I6.os I6.base I6.hok I6.bare fun b hb => ⟨(f3 b hb).1.2.2.2.1, (f3 b hb).1.2.1, (f3 b hb).1.2.2.2.2.1, (f3 b hb).1.2.2.2.2.2⟩
      have nC : H5 s3.heap.objs.size = none := by rw [← cL]; exact I6.free
      obtain ⟨m, hn, _⟩ := I6.loc
      have hn' : s6.heap.Ns s3.heap.objs.size m := by rw [← cL]; exact hn
      obtain ⟨f0, f1, f2', f3', f4, f5⟩ := I3.fpOk (Nat.le_refl _) nC
      exact ⟨m, hn', fun h'' sb => ⟨.ref D, H5, I7.turned (t' := s6.toks) (fun b o hb e => (sb.2 b hb).trans e) f0 f1 f3' f4 f5, rfl, qq⟩⟩
    · refine thnF (T.item Y rfl rfl rfl hc i [] s5 _ H5 (fun _ _ => False) I5 (own_ok I5 n5) st5 go) fun r s6 ⟨u, hr, h6⟩ => ?_
      subst hr
      refine thnF h6 fun _ s7 ⟨x, H7, I7, r7, y7, st7, n7⟩ => ?_
      have I7' := I7.pinned (own_ok I7 n7) (T.obj _ _ st7)
      refine thnF (pg.run _ s7 _ H7 x u _ I7' r7 (step x H7 y7)) fun _ s8 ⟨σ8, H8, I8, hw8, q8⟩ => ?_
      refine thnF (pt.run _ s8 σ8 H8 _ I8 q8) fun b s9 ⟨H9, I9, q9⟩ => ?_
      have fin : ∀ {σ9 : L2.St} {s' : Shared} {H' : Hp}, Inv Y ([] ++ pinsAt fp s7.heap) σ9 H' s' → (wipe σ (own.map (·.2))).length = σ9.length → (∀ (j : Nat) v, (wipe σ (own.map (·.2)))[j]? = some (some v) → σ9[j]? = some (some v)) → Nx H' → ∃ m, m < n ∧ ∃ i H', Inv Y [] (wipe σ (own.map (·.2))) H' s' ∧ tn i s'.heap ∧ (∀ b ∈ fp, H' b = none) ∧ W i m H' := fun {σ9 s' H'} I' hl hkk nx => by
        obtain ⟨m', hm, w'⟩ := hNx H' nx
        have pin : ∀ b ∈ fp, ∀ o, s7.heap.get? b = some o → s'.heap.get? b = some o ∧ H' b = none := fun b hb o e => by
          have z := I'.pin (b, o) (List.mem_append_right _ (List.mem_append_right _ (mem_pinsAt hb e)))
          exact ⟨z.1, z.2.1⟩
        refine ⟨m', hm, i + 1, H', (I'.unpinned (pins := [])).weak hl hkk, T.keep _ _ _ st7 fun b hb o e => (pin b hb o e).1, fun b hb => ?_, w'⟩
        obtain ⟨o, e, _⟩ := T.obj _ _ st7 b hb
        exact (pin b hb o e).2
      have l8 : (wipe σ (own.map (·.2))).length = σ8.length := by rw [← hw8, wipe_length]
      have k8 : ∀ (j : Nat) v, (wipe σ (own.map (·.2)))[j]? = some (some v) → σ8[j]? = some (some v) := fun j v e => by rw [← hw8] at e; exact (wipe_some e).1
      have k9 : ∀ (j : Nat) v, (wipe σ (own.map (·.2)))[j]? = some (some v) → (wipe σ8 vs1)[j]? = some (some v) := fun j v e => by
        rw [← hw8] at e
        obtain ⟨e1, e2⟩ := wipe_some e
        rw [wipe_out fun z => e2 (hv1 j z)]
        exact e1
      cases b with
      | false =>
        simp only [Bool.false_eq_true, if_false] at q9 ⊢
        exact fin I9 l8 k8 q9
      | true =>
        simp only [if_true] at q9 ⊢
        refine thnF (pj.run _ s9 σ8 H9 _ I9 q9) fun xv s10 hx => thnF hx fun _ s11 ⟨it1, fp1, tn1, J1, H11, e1, I11, T1, st11, f11, V, ⟨m1, w1⟩, turn1⟩ => ?_
        subst e1
        have fok : ∀ {H' : Hp}, (∀ b ∈ fp1, H' b = none) → ∀ b ∈ fp1, FpOk Y ([] ++ pinsAt fp s7.heap) H' b := fun hn b hb => ⟨hn b hb, (f11 b hb).2⟩
        have loop1 : codeAny (model X.prog X.w) X.A (.compLoop (dcE kx vx ta ia fa tb ib fb sc p) 1 (.ref it1) (.ref D) ce) (fun r s' => match r with
              | .ok _ => ∃ m, m < n ∧ ∃ i H', Inv Y [] (wipe σ (own.map (·.2))) H' s' ∧ tn i s'.heap ∧ (∀ b ∈ fp, H' b = none) ∧ W i m H'
              | .error _ => False) s11 := by
          refine dcL1 (fun k s' => ∃ j H', Inv Y ([] ++ pinsAt fp s7.heap) (wipe σ8 vs1) H' s' ∧ tn1 j s'.heap ∧ (∀ b ∈ fp1, H' b = none) ∧ V j k H') ?_ m1 ⟨0, H11, I11.weak (wipe_length _ _) (fun j v e => (wipe_some e).1), st11, fun b hb => (f11 b hb).1, w1⟩
          rintro k s12 ⟨j, H12, I12, st12, n12, w12⟩
          rcases turn1 j k H12 w12 with ⟨stop1, nx1⟩ | ⟨go1, Ny, hNy, step1⟩
          · refine thnF (T1.done Y rfl rfl rfl hc j _ s12 (wipe σ8 vs1) H12 (fun _ _ => False) I12 (fok n12) st12 stop1) fun r s13 ⟨hr, I13⟩ => ?_
            subst hr
            exact fin I13 (l8.trans (wipe_length σ8 vs1).symm) k9 nx1
          · refine thnF (T1.item Y rfl rfl rfl hc j _ s12 (wipe σ8 vs1) H12 (fun _ _ => False) I12 (fok n12) st12 go1) fun r s13 ⟨u1, hr, h13⟩ => ?_
            subst hr
            refine thnF h13 fun _ s14 ⟨x1, H14, I14, r14, y14, st14, n14⟩ => ?_
            have I14' := I14.pinned (fok n14) (T1.obj _ _ st14)
            refine thnF (ph.run _ s14 (wipe σ8 vs1) H14 x1 u1 _ I14' r14 (step1 x1 H14 y14)) fun _ s15 ⟨σ15, H15, I15, hw15, q15⟩ => ?_
            refine thnF (pu.run _ s15 σ15 H15 _ I15 q15) fun b1 s16 ⟨H16, I16, q16⟩ => ?_
            have fin1 : ∀ {s' : Shared} {H' : Hp}, Inv Y (([] ++ pinsAt fp s7.heap) ++ pinsAt fp1 s14.heap) σ15 H' s' → Ny H' → ∃ m, m < k ∧ ∃ j H', Inv Y ([] ++ pinsAt fp s7.heap) (wipe σ8 vs1) H' s' ∧ tn1 j s'.heap ∧ (∀ b ∈ fp1, H' b = none) ∧ V j m H' := fun {s' H'} I' nx => by
              obtain ⟨m', hm, w'⟩ := hNy H' nx
              have pin : ∀ b ∈ fp1, ∀ o, s14.heap.get? b = some o → s'.heap.get? b = some o ∧ H' b = none := fun b hb o e => by
                have z := I'.pin (b, o) (List.mem_append_right _ (List.mem_append_right _ (mem_pinsAt hb e)))
                exact ⟨z.1, z.2.1⟩
              refine ⟨m', hm, j + 1, H', I'.unpinned.weak (by rw [← hw15, wipe_length]) (fun l v e => by rw [← hw15] at e; exact (wipe_some e).1), T1.keep _ _ _ st14 fun b hb o e => (pin b hb o e).1, fun b hb => ?_, w'⟩
              obtain ⟨o, e, _⟩ := T1.obj _ _ st14 b hb
              exact (pin b hb o e).2
            cases b1 with
            | false =>
              simp only [Bool.false_eq_true, if_false] at q16 ⊢
              exact fin1 I16 q16
            | true =>
              simp only [if_true] at q16 ⊢
              refine thnF (pk.run _ s16 σ15 H16 _ I16 q16) fun z s17 ⟨yk, H17, I17, r17, q17⟩ => ?_
              refine thnF (pv.run _ s17 σ15 H17 _ I17 q17) fun z2 s18 ⟨yv, H18, I18, r18, kvs, kk, kb, ek, hkb, hD18, hz18, nx⟩ => ?_
              subst ek
              obtain rfl : z = Value.ref kb := r17
              exact setT (X := Y) hu I18 hD18 hkb hz18 r18 fun s19 I19 => fin1 I19 nx
        exact dcS1 loop1 (T1.self X.A 0 _ _ _ st11 loop1)
  exact codeAny_compStart_dict loop (T.self X.A 0 _ _ _ st4 loop)
end Mw

set_option maxHeartbeats 4000000
/-! AwN: dict comprehensions of two sources. -/
namespace Aw
open PySem PySem.Spec PyProof.Rows L2 Mw
noncomputable def dcGo2 (ag : AG) (ft : AT) (ai1 : AI) (ag1 : AG) (ft1 : AT) (fk fv : AE) (vs1 : List Nat) (e0 : Ev) (n : Nat) (stay : Sto → Prop) (X : XQ) (Fin : Sto → Prop) : List W → Sto → Prop
  | [], σ => stay σ ∧ Fin σ
  | w :: r, σ => stay σ ∧ ag w e0 σ (fun e2 σ2 => ft e2 σ2 (fun b σ3 => if b = true then ai1 e2 σ3 (fun items1 stay1 σ4 => dcGo ag1 ft1 fk fv (wipeE e2 vs1) n stay1 X (fun σ5 => dcGo2 ag ft ai1 ag1 ft1 fk fv vs1 e0 n stay X Fin r σ5) items1 σ4) X
      else dcGo2 ag ft ai1 ag1 ft1 fk fv vs1 e0 n stay X Fin r σ3) X)
noncomputable def aDc2 (ai : AI) (ag : AG) (ft : AT) (ai1 : AI) (ag1 : AG) (ft1 : AT) (fk fv : AE) (vs vs1 : List Nat) : AE := fun e σ Q X => ai e σ (fun items stay σ1 =>
  dcGo2 ag ft ai1 ag1 ft1 fk fv vs1 (wipeE e vs) σ1.length stay X (fun σf => Q (.ref σ1.length) σf) items (σ1 ++ [.dct true []])) X
section
variable {Z : Zx} {E : L2.St → XK} {ta tb : TE} {fa fb : AE} {wi wi1 : TI} {ai ai1 : AI} {g g1 : TG} {ag ag1 : AG} {tt tt1 : TT} {ft ft1 : AT} {vs vs1 : List Nat}
instance sim_dc2 {F : XK} [ii : SimI Z (fun _ => F) wi ai] [ig : SimG Z g ag] [it : SimT Z (fun _ => F) tt ft] [ii1 : SimI Z (fun _ => F) wi1 ai1] [ig1 : SimG Z g1 ag1] [it1 : SimT Z (fun _ => F) tt1 ft1] [ia : SimE Z (fun _ => F) ta fa] [ib : SimE Z (fun _ => F) tb fb]
    [tin : TgtIn g vs] [tm : TgMono g] [tin1 : TgtIn g1 vs1] [tm1 : TgMono g1] : SimE Z (fun _ => F) (tDc2 wi g tt wi1 g1 tt1 ta tb vs vs1) (aDc2 ai ag ft ai1 ag1 ft1 fa fb vs vs1) := ⟨fun {ρ σ H s e Qa Ea Q} r er h kq kx =>
  ii.sim r er h (fun ρ1 σ1 H1 J items stay g1 r1 itr h1 D nD => by
    have gc : Go Z.T ρ1 H1 (ρ1 ++ [D]) (upd H1 D (.dT [])) := Go.cell nD
    have rc : Rel Z.K Z.T (ρ1 ++ [D]) (σ1 ++ [.dct true []]) (upd H1 D (.dT [])) := r1.cell' nD ⟨[], upd_same, .nil⟩
    have hD : (ρ1 ++ [D])[σ1.length]? = some D := by rw [r1.len, List.getElem?_append_right (Nat.le_refl _), Nat.sub_self]; rfl
    generalize hG : dcGo2 ag ft ai1 ag1 ft1 fa fb vs1 (wipeE e vs) σ1.length stay Ea (fun σf => Qa (.ref σ1.length) σf) = Gf at h1
    refine ⟨fun i m H' => m = items.length - i ∧ i ≤ items.length ∧ ∃ ρ' σ', Go Z.T (ρ1 ++ [D]) (upd H1 D (.dT [])) ρ' H' ∧ Rel Z.K Z.T ρ' σ' H' ∧ Gf (items.drop i) σ', ⟨_, rfl, Nat.zero_le _, _, _, .refl, rc, h1⟩, ?_⟩
    rintro i m H' ⟨rfl, hi, ρ', σ', g', r', h'⟩
    have g1' : Go Z.T ρ1 H1 ρ' H' := gc.trans g'
    by_cases hlt : i < items.length
    · rw [List.drop_eq_getElem_cons hlt, ← hG] at h'
      obtain ⟨st, h'⟩ := h'
      rw [hG] at h'
      obtain ⟨a1, a2⟩ := (itr _ _ _ g1' r' st).1 i items[i] (List.getElem?_eq_getElem hlt)
      refine .inr ⟨a1, fun H2 => i + 1 ≤ items.length ∧ ∃ ρ' σ', Go Z.T (ρ1 ++ [D]) (upd H1 D (.dT [])) ρ' H2 ∧ Rel Z.K Z.T ρ' σ' H2 ∧ Gf (items.drop (i + 1)) σ', fun H2 n => ⟨_, by omega, rfl, n.1, n.2⟩, fun x H2 y => ?_⟩
      obtain ⟨g2, r2, v2⟩ := a2 x H2 y
      have g12 : Go Z.T ρ H ρ' H2 := (g1.trans g1').trans g2
      have er2 : ER Z.K ρ' H2 (wipe s vs) (wipeE e vs) := er_wipe (g12.er r er) vs
      refine tm.mono (fun s3 H3 z => ⟨wipe_agree z.1, z.2⟩) (tin.out (ig.sim r2 er2 v2 h' fun ρ3 σ3 H3 s3 e3 g3 r3 er3 h3 => ?_))
      have g13 := g12.trans g3
      refine it.sim r3 er3 h3 (fun ρ4 σ4 H4 b g4 r4 h4 => ?_) (kx.go g13)
      have g14 := g13.trans g4
      have gD4 : Go Z.T (ρ1 ++ [D]) (upd H1 D (.dT [])) ρ4 H4 := ((g'.trans g2).trans g3).trans g4
      cases b with
      | false => exact ⟨hlt, ρ4, σ4, gD4, r4, h4⟩
      | true =>
        refine ii1.sim r4 (g4.er r3 er3) h4 (fun ρ5 σ5 H5 J1 items1 stay1 g5 r5 itr1 h5 => ?_) (kx.go g14)
        have er5 : ER Z.K ρ5 H5 s3 e3 := (g4.trans g5).er r3 er3
        have gD5 := gD4.trans g5
        have g15 := g14.trans g5
        generalize hK : dcGo ag1 ft1 fa fb (wipeE e3 vs1) σ1.length stay1 Ea (fun σ5 => Gf (items.drop (i + 1)) σ5) = Gk at h5
        refine ⟨fun j k H' => k = items1.length - j ∧ j ≤ items1.length ∧ ∃ ρ' σ', Go Z.T ρ5 H5 ρ' H' ∧ Rel Z.K Z.T ρ' σ' H' ∧ Gk (items1.drop j) σ', ⟨_, rfl, Nat.zero_le _, _, _, .refl, r5, h5⟩, ?_⟩
        rintro j k H6 ⟨rfl, hj, ρ6, σ6, g6, r6, h6⟩
        by_cases hjt : j < items1.length
        · rw [List.drop_eq_getElem_cons hjt, ← hK] at h6
          obtain ⟨st1, h6⟩ := h6
          rw [hK] at h6
          obtain ⟨b1, b2⟩ := (itr1 _ _ _ g6 r6 st1).1 j items1[j] (List.getElem?_eq_getElem hjt)
          refine .inr ⟨b1, fun H2 => j + 1 ≤ items1.length ∧ ∃ ρ' σ', Go Z.T ρ5 H5 ρ' H2 ∧ Rel Z.K Z.T ρ' σ' H2 ∧ Gk (items1.drop (j + 1)) σ', fun H2 n => ⟨_, by omega, rfl, n.1, n.2⟩, fun x H7 y => ?_⟩
          obtain ⟨g7, r7, v7⟩ := b2 x H7 y
          have g57 := g6.trans g7
          have er7 : ER Z.K ρ6 H7 (wipe s3 vs1) (wipeE e3 vs1) := er_wipe (g57.er r5 er5) vs1
          refine tm1.mono (fun s3 H3 z => ⟨wipe_agree z.1, z.2⟩) (tin1.out (ig1.sim r7 er7 v7 h6 fun ρ8 σ8 H8 s8 e8 g8 r8 er8 h8 => ?_))
          have g58 := g57.trans g8
          refine it1.sim r8 er8 h8 (fun ρ9 σ9 H9 b g9 r9 h9 => ?_) (kx.go (g15.trans g58))
          have g59 := g58.trans g9
          cases b with
          | false => exact ⟨hjt, ρ9, σ9, g59, r9, h9⟩
          | true =>
            refine ia.sim r9 (g9.er r8 er8) h9 (fun ρA σA HA v w gA rA vA hA => ?_) (kx.go (g15.trans g59))
            have g5A := g59.trans gA
            refine ib.sim rA ((g9.trans gA).er r8 er8) hA (fun ρB σB HB v' w' gB rB vB hB => ?_) (kx.go (g15.trans g5A))
            obtain ⟨kd, acc, rfl, hk, hcc, hl, hB⟩ := hB
            have g5B := g5A.trans gB
            have hDB := (gD5.trans g5B).at_ hD
            obtain ⟨hkv, e1, e2⟩ := rB.cell _ D _ hDB hcc
            obtain ⟨ks, rfl⟩ := isKT_of hk
            obtain ⟨bk, rfl, hb⟩ := rp_keyT (gB.rp rA vA)
            have gp : Go Z.T ρB HB ρB (upd HB D (.dT (putK hkv ks v'))) := Go.put (List.mem_of_getElem? hDB) e1
            exact ⟨hkv, ks, bk, rfl, hb, e1, by rw [prs_len e2]; exact hl, hjt, ρB, _, g5B.trans gp, rB.put (c := .dct true (dput acc (kT ks) w')) hDB ⟨_, upd_same, gp.prs rB (prs_put (fun _ _ => kT_inj) ks vB e2)⟩, hB⟩
        · have ej : j = items1.length := by omega
          subst ej
          rw [List.drop_length, ← hK] at h6
          obtain ⟨st1, h6⟩ := h6
          exact .inl ⟨(itr1 _ _ _ g6 r6 st1).2, hlt, ρ6, σ6, gD5.trans g6, r6, h6⟩
    · have ei : i = items.length := by omega
      subst ei
      rw [List.drop_length, ← hG] at h'
      obtain ⟨st, h'⟩ := h'
      exact .inl ⟨(itr _ _ _ g1' r' st).2, kq.r (g1.trans g1') r' (g'.at_ hD) h'⟩) kx⟩
theorem r_dc2 {fk fv : AE} {e : Ev} {σ : Sto} {Q : QK} {X : XQ} (h : ai e σ (fun items stay σ1 => dcGo2 ag ft ai1 ag1 ft1 fk fv vs1 (wipeE e vs) σ1.length stay X (fun σf => Q (.ref σ1.length) σf) items (σ1 ++ [.dct true []])) X) : aDc2 ai ag ft ai1 ag1 ft1 fk fv vs vs1 e σ Q X := h
end
theorem pe_dc2A {X : Cx} {kx vx ta ia tb ib : Expr} {fa fb : List Expr} {sc : Scope} {p : Pos} {own : List (Str × Nat)} {vs vs1 : List Nat} {wi wi1 : TI} {g g1 : TG} {tt tt1 : TT} {tk tv : TE} (hvv : own.map (·.2) = vs) (hu : X.A.units + 1 < cLine) (hc : X.calm = true) (hN : X.N.Nodup) (hi : PI X ta ia wi) (ok : BlkOk X.N X.env.scope sc own)
    (hv1 : ∀ i ∈ vs1, i ∈ vs) (hg : Blk X sc fun Y => PG Y ta g) (ht : Blk X sc fun Y => PTs Y fa tt) (hi1 : Blk X sc fun Y => PI Y tb ib wi1) (hg1 : Blk X sc fun Y => PG Y tb g1) (ht1 : Blk X sc fun Y => PTs Y fb tt1) (hk : Blk X sc fun Y => PE Y kx tk) (hv : Blk X sc fun Y => PE Y vx tv)
    (hs : ∀ x, foldedSetIterable ia X.env x = pure x := by intro _; rfl) (hs1 : ∀ env x, foldedSetIterable ib env x = pure x := by intro _ _; rfl) :
    PE X (.DictComp kx vx [⟨ta, ia, fa, 0⟩, ⟨tb, ib, fb, 0⟩] sc p) (tDc2 wi g tt wi1 g1 tt1 tk tv vs vs1) := by
  subst hvv
  exact pe_dc2 hu hc hN hi ok hv1 hg ht hi1 hg1 ht1 hk hv hs hs1
/-- the turns, by what holds ahead of turn j -/
theorem dc2_run {ag : AG} {ft : AT} {ai1 : AI} {ag1 : AG} {ft1 : AT} {fk fv : AE} {vs1 : List Nat} {e0 : Ev} {n : Nat} {X : XQ} {Fin : Sto → Prop} {stay : Sto → Prop} {items : List W} (I : Nat → Sto → Prop) {σ : Sto} (h0 : I 0 σ)
    (step : ∀ j w σ (Rest : Sto → Prop), items[j]? = some w → I j σ → (∀ σ', I (j + 1) σ' → Rest σ') → stay σ ∧ ag w e0 σ (fun e2 σ2 => ft e2 σ2 (fun b σ3 => if b = true then ai1 e2 σ3 (fun items1 stay1 σ4 => dcGo ag1 ft1 fk fv (wipeE e2 vs1) n stay1 X Rest items1 σ4) X else Rest σ3) X))
    (fin : ∀ σ, I items.length σ → stay σ ∧ Fin σ) : dcGo2 ag ft ai1 ag1 ft1 fk fv vs1 e0 n stay X Fin items σ := by
  have key : ∀ m j σ, m + j = items.length → I j σ → dcGo2 ag ft ai1 ag1 ft1 fk fv vs1 e0 n stay X Fin (items.drop j) σ := by
    intro m
    induction m with
    | zero =>
      intro j σ hm hi
      have : j = items.length := by omega
      subst this
      rw [List.drop_length]
      exact fin σ hi
    | succ m ih =>
      intro j σ hm hi
      have hj : j < items.length := by omega
      rw [List.drop_eq_getElem_cons hj]
      exact step j items[j] σ _ (List.getElem?_eq_getElem hj) hi fun σ' h => ih (j + 1) σ' (by omega) h
  exact key items.length 0 σ (by omega) h0
/-- a comprehension's turns over a dict that has something already -/
theorem dc_on {ag : AG} {ft : AT} {fk fv : AE} {e0 : Ev} {n : Nat} {X : XQ} {Fin : Sto → Prop} {stay : Sto → Prop} {items : List W} (I : Nat → Sto → Prop) {σ : Sto} (h0 : I 0 σ)
    (step : ∀ j w σ (Rest : Sto → Prop), items[j]? = some w → I j σ → (∀ σ', I (j + 1) σ' → Rest σ') → stay σ ∧ ag w e0 σ (fun e2 σ2 => ft e2 σ2 (fun b σ3 => if b = true then fk e2 σ3 (fun y σ4 => fv e2 σ4 (fun z σ5 => ∃ kd acc5, y = .d kd ∧ isKT kd = true ∧ σ5[n]? = some (.dct true acc5) ∧ acc5.length < sizeLine ∧ Rest (σ5.set n (.dct true (dput acc5 kd z)))) X) X else Rest σ3) X))
    (fin : ∀ σ, I items.length σ → stay σ ∧ Fin σ) : dcGo ag ft fk fv e0 n stay X Fin items σ := by
  have key : ∀ m j σ, m + j = items.length → I j σ → dcGo ag ft fk fv e0 n stay X Fin (items.drop j) σ := by
    intro m
    induction m with
    | zero =>
      intro j σ hm hi
      have : j = items.length := by omega
      subst this
      rw [List.drop_length]
      exact fin σ hi
    | succ m ih =>
      intro j σ hm hi
      have hj : j < items.length := by omega
      rw [List.drop_eq_getElem_cons hj]
      exact step j items[j] σ _ (List.getElem?_eq_getElem hj) hi fun σ' h => ih (j + 1) σ' (by omega) h
  exact key items.length 0 σ (by omega) h0
end Aw

set_option maxHeartbeats 4000000
/-! AwO: comprehensions that only look. -/
namespace Aw
open PySem PySem.Spec PyProof.Rows L2 Mw Lw
theorem small' {n : Nat} (h : n ≤ 100000) : n < sizeLine := by rw [sizeLine_eq]; omega
section
variable {α : Type} {ag : AG} {ft : AT} {fa fk fv : AE} [mg : MoG ag] [mt : MoT ft] [me : MoE fa] {e0 e : Ev} {X : XQ} {Q : QK} {σ : Sto} {stay : Sto → Prop}
/-- [.. for x in L if ..] -/
theorem lc_fm (L : List α) (g : α → W) (f : α → Option PyData) (hst : ∀ j, stay (σ ++ j)) (hl : L.length ≤ 100000)
    (step : ∀ x ∈ L, ∀ (j : Sto) (Y : PyData → Prop) (N : Prop), (∀ d, f x = some d → Y d) → (f x = none → N) → ag (g x) e0 (σ ++ j) (fun e2 σ2 => ft e2 σ2 (fun b σ3 => if b = true then fa e2 σ3 (fun y σ4 => ∃ d, y = .d d ∧ σ4 = σ ++ j ∧ Y d) X else σ3 = σ ++ j ∧ N) X))
    (q : Q (.d (.list (L.filterMap f))) σ) : lcFz ag ft fa e0 X Q (L.map g) stay σ := by
  refine lc_fz (fun i acc s => s = σ ∧ acc = (L.take i).filterMap f) ⟨rfl, by simp⟩ (fun i acc s h => by rw [h.1]; exact ⟨rfl, fun _ _ h => .inl h⟩) (fun i w acc s Rest hw h k => ?_) fun acc s h => ?_
  · obtain ⟨rfl, rfl⟩ := h
    rw [List.getElem?_map] at hw
    obtain ⟨x, hx, rfl⟩ := Option.map_eq_some_iff.mp hw
    refine ⟨hst _, ?_⟩
    have hlen : ((L.take i).filterMap f).length < sizeLine := by
      have h1 := List.length_filterMap_le f (L.take i)
      rw [List.length_take] at h1
      exact small' (by omega)
    refine mg.mo (fun e2 s2 h => mt.mo (fun b s3 h => ?_) h) (step x (List.mem_of_getElem? hx) [.lst (((L.take i).filterMap f).map .d)] (fun d => f x = some d) (f x = none) (fun _ h => h) fun h => h)
    cases b with
    | true =>
      rw [if_pos rfl] at h ⊢
      refine me.mo (fun y s4 h => ?_) h
      obtain ⟨d, rfl, rfl, hd⟩ := h
      refine tg_app rfl hlen (k _ _ ⟨rfl, ?_⟩)
      rw [take_snoc hx, List.filterMap_append]
      simp [hd]
    | false =>
      rw [if_neg (by decide)] at h ⊢
      obtain ⟨rfl, hn⟩ := h
      refine k _ _ ⟨rfl, ?_⟩
      rw [take_snoc hx, List.filterMap_append]
      simp [hn]
  obtain ⟨rfl, rfl⟩ := h
  rw [List.length_map, List.take_length]
  exact ⟨hst _, q⟩
theorem r_tupG {ai : AI} {vs : List Nat} (h : ai e σ (fun items stay σ1 => gnGo ag ft fa (wipeE e vs) stay X (fun (a : List PyData) w N _ => ∃ d, w = .d d ∧ a.length < sizeLine ∧ N (a ++ [d])) (fun a σf => Q (.d (.tuple a)) σf) items [] σ1) X) : aTupG ai ag ft fa vs e σ Q X := h
/-- tuple(.. for x in L if ..) -/
theorem tg_fm (L : List α) (g : α → W) (f : α → Option PyData) (hst : stay σ) (hl : L.length ≤ 100000)
    (step : ∀ x ∈ L, ∀ (Y : PyData → Prop) (N : Prop), (∀ d, f x = some d → Y d) → (f x = none → N) → ag (g x) e0 σ (fun e2 σ2 => ft e2 σ2 (fun b σ3 => if b = true then fa e2 σ3 (fun y σ4 => ∃ d, y = .d d ∧ σ4 = σ ∧ Y d) X else σ3 = σ ∧ N) X))
    (q : Q (.d (.tuple (L.filterMap f))) σ) : gnGo ag ft fa e0 stay X (fun (a : List PyData) w N _ => ∃ d, w = .d d ∧ a.length < sizeLine ∧ N (a ++ [d])) (fun a σf => Q (.d (.tuple a)) σf) (L.map g) [] σ := by
  refine gn_run (fun i a s => s = σ ∧ a = (L.take i).filterMap f) ⟨rfl, by simp⟩ (fun i w a s Rest hw h k => ?_) fun a s h => ?_
  · obtain ⟨rfl, rfl⟩ := h
    rw [List.getElem?_map] at hw
    obtain ⟨x, hx, rfl⟩ := Option.map_eq_some_iff.mp hw
    refine ⟨hst, ?_⟩
    have hlen : ((L.take i).filterMap f).length < sizeLine := by
      have h1 := List.length_filterMap_le f (L.take i)
      rw [List.length_take] at h1
      exact small' (by omega)
    refine mg.mo (fun e2 s2 h => mt.mo (fun b s3 h => ?_) h) (step x (List.mem_of_getElem? hx) (fun d => f x = some d) (f x = none) (fun _ h => h) fun h => h)
    cases b with
    | true =>
      rw [if_pos rfl] at h ⊢
      refine me.mo (fun y s4 h => ?_) h
      obtain ⟨d, rfl, rfl, hd⟩ := h
      refine ⟨d, rfl, hlen, k _ _ ⟨rfl, ?_⟩⟩
      rw [take_snoc hx, List.filterMap_append]
      simp [hd]
    | false =>
      rw [if_neg (by decide)] at h ⊢
      obtain ⟨rfl, hn⟩ := h
      refine k _ _ ⟨rfl, ?_⟩
      rw [take_snoc hx, List.filterMap_append]
      simp [hn]
  obtain ⟨rfl, rfl⟩ := h
  rw [List.length_map, List.take_length]
  exact ⟨hst, q⟩
/-- all(.. for x in L), any(.. for x in L) -/
theorem ag_fm (go : Bool) (L : List α) (g : α → W) (f : α → Bool) (hst : stay σ)
    (step : ∀ x ∈ L, ∀ (Y : Bool → Prop), Y (f x) → ag (g x) e0 σ (fun e2 σ2 => ft e2 σ2 (fun b σ3 => b = true ∧ fa e2 σ3 (fun y σ4 => ∃ d, y = .d (.bool d) ∧ σ4 = σ ∧ Y d) X) X))
    (q : Q (.d (.bool (if go then L.all f else L.any f))) σ) : gnGo ag ft fa e0 stay X (anyS go Q) (fun _ σf => Q (.d (.bool go)) σf) (L.map g) () σ := by
  refine gn_run (fun i a s => s = σ ∧ ∀ x ∈ L.take i, f x = go) ⟨rfl, fun x hx => by simp at hx⟩ (fun i w a s Rest hw h k => ?_) fun a s h => ?_
  · obtain ⟨rfl, ha⟩ := h
    rw [List.getElem?_map] at hw
    obtain ⟨x, hx, rfl⟩ := Option.map_eq_some_iff.mp hw
    refine ⟨hst, ?_⟩
    refine mg.mo (fun e2 s2 h => mt.mo (fun b s3 h => ?_) h) (step x (List.mem_of_getElem? hx) (fun d => f x = d) rfl)
    obtain ⟨rfl, h⟩ := h
    rw [if_pos rfl]
    refine me.mo (fun y s4 h => ?_) h
    obtain ⟨d, rfl, rfl, hd⟩ := h
    refine ⟨d, rfl, ?_⟩
    by_cases hg : d = go
    · rw [if_pos hg]
      refine k _ _ ⟨rfl, fun y hy => ?_⟩
      rw [take_snoc hx] at hy
      rcases List.mem_append.mp hy with h | h
      · exact ha y h
      · rw [List.mem_singleton.mp h, hd, hg]
    · rw [if_neg hg]
      have e : (if go then L.all f else L.any f) = d := by
        cases go with
        | true =>
          have hdf : d = false := by cases d <;> simp_all
          rw [if_pos rfl, hdf]
          refine Bool.eq_false_iff.mpr fun z => ?_
          have := List.all_eq_true.mp z x (List.mem_of_getElem? hx)
          rw [hd, hdf] at this
          cases this
        | false =>
          have hdt : d = true := by cases d <;> simp_all
          rw [if_neg (by decide), hdt]
          exact List.any_eq_true.mpr ⟨x, List.mem_of_getElem? hx, by rw [hd, hdt]⟩
      rw [← e]
      exact q
  · obtain ⟨rfl, ha⟩ := h
    rw [List.length_map, List.take_length] at ha
    refine ⟨hst, ?_⟩
    have e : (if go then L.all f else L.any f) = go := by
      cases go with
      | true => rw [if_pos rfl]; exact List.all_eq_true.mpr ha
      | false =>
        rw [if_neg (by decide)]
        exact List.any_eq_false.mpr fun x hx => by rw [ha x hx]; decide
    rw [e] at q
    exact q
end
/-- {name: True for ..} -/
theorem dc_names {ag : AG} {ft : AT} {fk fv : AE} [mg : MoG ag] [mt : MoT ft] [mk : MoE fk] [mv : MoE fv] {e0 : Ev} {X : XQ} {n : Nat} {σ : Sto} {stay : Sto → Prop} {Fin : Sto → Prop} (L : List Nm) (hst : ∀ j, stay (σ ++ j)) (hn : n = σ.length) (g0 : List Nm) (hl : g0.length + L.length ≤ 100000)
    (step : ∀ x ∈ L, ∀ (j : Sto), ag (.d (nmD x)) e0 (σ ++ j) (fun e2 σ2 => ft e2 σ2 (fun b σ3 => b = true ∧ fk e2 σ3 (fun y σ4 => y = .d (nmD x) ∧ fv e2 σ4 (fun z σ5 => z = .d (.bool true) ∧ σ5 = σ ++ j) X) X) X))
    (q : Fin (σ ++ [.dct true (kvY (L.foldl ins g0))])) : dcGo ag ft fk fv e0 n stay X Fin (nmW L) (σ ++ [.dct true (kvY g0)]) := by
  subst hn
  refine dc_on (fun i s => s = σ ++ [.dct true (kvY ((L.take i).foldl ins g0))]) (by simp) (fun i w s Rest hw h k => ?_) fun s h => ?_
  · subst h
    rw [List.getElem?_map] at hw
    obtain ⟨x, hx, rfl⟩ := Option.map_eq_some_iff.mp hw
    refine ⟨hst _, ?_⟩
    refine mg.mo (fun e2 s2 h => mt.mo (fun b s3 h => ?_) h) (step x (List.mem_of_getElem? hx) [.dct true (kvY ((L.take i).foldl ins g0))])
    obtain ⟨rfl, h⟩ := h
    rw [if_pos rfl]
    refine mk.mo (fun y s4 h => ?_) h
    obtain ⟨rfl, h⟩ := h
    refine mv.mo (fun z s5 h => ?_) h
    obtain ⟨rfl, rfl⟩ := h
    have hlen : ∀ (l g : List Nm), (l.foldl ins g).length ≤ g.length + l.length := fun l => by
      induction l with
      | nil => intro g; exact Nat.le_refl _
      | cons a l ih =>
        intro g
        have h1 := ih (ins g a)
        have h2 := ins_len g a
        rw [List.foldl_cons, List.length_cons]
        omega
    have h3 := hlen (L.take i) g0
    rw [List.length_take] at h3
    refine ⟨nmD x, _, rfl, rfl, px_j0, small' (by rw [List.length_map]; omega), ?_⟩
    rw [px_s0, put_Y]
    refine k _ ?_
    rw [take_snoc hx, List.foldl_append]
    rfl
  · subst h
    rw [List.length_map, List.take_length]
    exact ⟨hst _, q⟩
end Aw

namespace Mw
open PySem PySem.Spec PyProof.Rows L2
/-! ### enumerate(v) of lists and tuples -/
set_option maxHeartbeats 4000000 in
theorem enumN {v : Value} {o : Obj} {Hh : Heap → Prop} (B : Begins v o Hh) : Meets (Builtin.«enumerate.__new__» ⟨[.type "enumerate", v], []⟩) (fun _ R s => Hh s.heap ∧
    R (.ok (.ret (.ref (s.heap.push o).objs.size))) { s with heap := (s.heap.push o).push { cls := .type "enumerate", data := .fields #[.none, .bool false, .ref s.heap.objs.size, rawInt 0, .none, .none] } }) :=
  .of_wp fun prog w A R s h => by
    obtain ⟨hp, g, d, tk, os⟩ := s
    obtain ⟨h1, h⟩ := h
    have hsub := sub_enumerate
    have q1 : ∀ {A' : Around} {E : Value → Shared → Prop} {Q : Value → Shared → Prop}, Q (.ref hp.objs.size) ⟨hp.push o, g, d, tk, os⟩ → wpAny (model prog w) A' (pyIter v) Q E ⟨hp, g, d, tk, os⟩ := fun q => B.iter prog w _ _ ⟨hp, g, d, tk, os⟩ _ h1 q
    wp_walk using q1
    refine wpAny_stack_any fun st => wpAny_pure ?_
    split
    · rename_i c _ _ _ _ _
      cases (c == Value.type "enumerate") <;> (wp_walk using q1; exact ⟨_, rfl, h⟩)
    · wp_walk using q1
      exact ⟨_, rfl, h⟩
theorem enumB {P : Program} {w : World} {A : Around} {E : Value → Shared → Prop} {s : Shared} {v : Value} {o : Obj} {Hh : Heap → Prop} {Q : Value → Shared → Prop} (B : Begins v o Hh) (h1 : Hh s.heap)
    (h : ∀ h', IsEnum h' (s.heap.objs.size + 1) s.heap.objs.size 0 .none → h'.get? s.heap.objs.size = some o → (∀ b o, s.heap.get? b = some o → h'.get? b = some o) → Q (.ref (s.heap.objs.size + 1)) { s with heap := h' }) :
    wpAny (model P w) A (call (.type "enumerate") [v]) Q E s := by
  refine callType_new F.called_enumerate (by decide) (F.typeCall_enumerate_1 _) (F.newCall_enumerate_1 _) (fun obj => F.args_object_init_2 obj _) F.entry_enumerate_new (enumN B) ⟨h1, ?_⟩
  have hz : (s.heap.push o).objs.size = s.heap.objs.size + 1 := Heap.size_push ..
  show _ ∧ _
  rw [hz]
  generalize hob : ({ cls := .type "enumerate", data := .fields #[.none, .bool false, .ref s.heap.objs.size, rawInt 0, .none, .none] } : Obj) = ob
  have he : ((s.heap.push o).push ob).get? (s.heap.objs.size + 1) = some ob := by rw [← hz]; exact Heap.get?_push_size _ (by rw [← hob]; rfl)
  have he' : IsEnum ((s.heap.push o).push ob) (s.heap.objs.size + 1) s.heap.objs.size 0 .none := by rw [← hob] at he ⊢; exact he
  refine ⟨⟨_, he', rfl⟩, h _ he' (Heap.get?_push_of_some _ (Heap.get?_push_size _ B.free)) fun b o x => Heap.get?_push_of_some _ (Heap.get?_push_of_some _ x)⟩
/-- the tuple at a, each item in a new pair -/
def IteT (K : PySem.W.Frag) (a : Addr) : It :=
  ⟨fun i H => ∃ (xs : List V) (x : V), SqT K H a xs ∧ xs[i]? = some x, fun i H v H' => ∃ T x, v = .ref T ∧ H T = none ∧ H' = upd H T (.tup [.int (i : Nat), x]) ∧ ∀ xs, SqT K H a xs → xs[i]? = some x, fun i H => ∃ xs : List V, SqT K H a xs ∧ xs.length ≤ i⟩
theorem apartT {h : Heap} {it a : Addr} {i : Nat} {xs : Array Value} (h1 : h.IsTupleIter it a i) (h2 : h.IsTuple a xs) : a ≠ it := fun z => by
  obtain ⟨o, e1, c1, _⟩ := h1
  obtain ⟨o', e2, c2, _⟩ := h2
  rw [z, e1] at e2
  cases e2
  rw [c1] at c2
  exact absurd c2 (by decide)
theorem apartE {h : Heap} {e it a : Addr} {i : Int} {old : Value} {xs : Array Value} (h1 : IsEnum h e it i old) (h2 : h.IsTuple a xs) : e ≠ a := fun z => by
  obtain ⟨o', e2, c2, _⟩ := h2
  have h1' : h.get? e = some _ := h1
  rw [z, e2] at h1'
  cases h1'
  exact absurd (show Value.type "enumerate" = Value.type "tuple" from c2) (by decide)
theorem turn_enumT {P : Program} {w : World} {K : PySem.W.Frag} {elts : List Expr} {kk : Nat} {tpos : Pos} (a e it : Addr) :
    Turn P w K (.Tuple elts kk tpos) (IteT K a) [e, it] e (fun i h => (∃ old, IsEnum h e it ((i : Nat) : Int) old) ∧ h.IsTupleIter it a i ∧ e ≠ it) where
  mem := by simp
  obj := fun i h st b hb => by
    obtain ⟨⟨old, he⟩, ⟨o, ho, hc, hd⟩, _⟩ := st
    rcases (show b = e ∨ b = it by simpa using hb) with rfl | rfl
    · exact ⟨_, he, fun v q => nomatch q⟩
    · exact ⟨o, ho, fun v q => by rw [hd] at q; cases q⟩
  keep := fun i h h' ⟨⟨old, he⟩, hi, hne⟩ k => ⟨⟨old, k e (by simp) _ he⟩, hi.at fun o q => k it (by simp) o q, hne⟩
  item := by
    intro X hP hw hK hc i pins s σ H E I hf st hg
    subst hP hw hK
    obtain ⟨⟨old, he⟩, hit, hne⟩ := st
    obtain ⟨xs, x, hq, hx⟩ := hg
    obtain ⟨its, rv, p, hz⟩ := I.tuple hq
    obtain ⟨u, hu, ru⟩ := rv.get hx
    have pT : s.heap.IsTuple a its.toArray := p
    have hel : e < s.heap.objs.size := Heap.lt_size he
    have hil : it < s.heap.objs.size := let ⟨_, q, _⟩ := hit; Heap.lt_size q
    have D := Draws.tuple (prog := X.prog) (w := X.w) (A := X.A.in1) (I.ok.hd hc) it a (apartT hit pT) its.toArray
    refine wpAny_pyNext_enum_itemD D he ⟨hit, pT⟩ (by simpa using (List.getElem?_eq_some_iff.mp hu).1) hne (by simp [hne, apartE he pT]) fun x' h' tk hP ho hst hT hsz hk => ?_
    have ex : x' = u := by
      have hu' : its.toArray[i]? = some u := by simpa using hu
      have hP' : its.toArray[i]? = some x' := hP
      rw [hu'] at hP'
      exact (Option.some.inj hP').symm
    subst ex
    refine ⟨_, rfl, wpAny_letOwnedTupleGo_enum (s := { s with heap := h', toks := tk + 1 }) ho fun h'' he' sb => ?_⟩
    have hT2 := (sb.2 _ (Nat.ne_of_gt hel)).trans hT
    have new : ObjOk X.prog X.w (upd H s.heap.objs.size (.tup [.int (i : Nat), x])) h'' s.heap.objs.size (.tup [.int (i : Nat), x]) :=
      ⟨(by show 2 ≤ sizeLine; decide), [.int i tk, x'], .cons ⟨_, rfl⟩ (.cons ru .nil), ⟨_, hT2, rfl, _, rfl⟩⟩
    have I1 : Inv X pins σ (upd H s.heap.objs.size (.tup [.int (i : Nat), x])) { s with heap := h'', toks := tk + 1 } :=
      I.turnedNew (ch := [e, it]) (fun b ob hb q => (sb.2 b (fun z => hb (by simp [z]))).trans (hk b ob (fun z => hb (by simp [z])) (fun z => hb (by simp [z])) q)) hf (Nat.le_refl _) new
    refine ⟨.ref s.heap.objs.size, _, I1, rfl, ⟨_, x, rfl, I.hok.fresh (Nat.le_refl _), rfl, fun ys hy => by rw [I.tuple_inj hy hq]; exact hx⟩, ⟨⟨x', ?_⟩, hst.1.at fun o q => (sb.2 it (Ne.symm hne)).trans q, hne⟩, fun b hb => ?_⟩
    · rw [show ((i + 1 : Nat) : Int) = (i : Int) + 1 by omega]; exact he'
    · have hb' : b < s.heap.objs.size := by
        rcases (show b = e ∨ b = it by simpa using hb) with rfl | rfl
        · exact hel
        · exact hil
      rw [upd_ne (Nat.ne_of_lt hb')]
      exact (hf b hb).1
  done := by
    intro X hP hw hK hc i pins s σ H E I hf st hg
    subst hP hw hK
    obtain ⟨⟨old, he⟩, hit, hne⟩ := st
    obtain ⟨xs, hq, hx⟩ := hg
    obtain ⟨its, rv, p, hz⟩ := I.tuple hq
    have pT : s.heap.IsTuple a its.toArray := p
    obtain ⟨f0, f1, f2, f3, f4, f5⟩ := hf it (by simp)
    have hl := rv.length
    have D := Draws.tuple (prog := X.prog) (w := X.w) (A := X.A.in1) (I.ok.hd hc) it a (apartT hit pT) its.toArray
    -- behind the end
    have D' : Draws X.prog X.w X.A.in1 it [it, a] i (fun _ _ => False) (fun j h => j = i ∧ h.IsTupleIter it a i ∧ h.IsTuple a its.toArray) :=
      { live := fun _ _ st => let ⟨o, ho, _⟩ := st.2.1; ⟨o, ho⟩
        frame := fun _ _ _ st hk => ⟨st.1, st.2.1.at fun o e => hk it (by simp) o e, st.2.2.at fun o e => hk a (by simp) o e⟩
        item := fun j s Q E hj st _ => absurd st.1 (Nat.ne_of_lt hj)
        done := fun s Q E st hE => wpAny_nextOf_tuple_end (I.ok.hd hc) st.2.1 st.2.2 (by simp; omega) hE }
    exact wpAny_pyNext_enum_endD D' he ⟨rfl, hit, pT⟩ fun h' eb => ⟨rfl, I.turned (t' := s.toks) (fun b o hb q => eb b o hb q) f0 f1 f3 f4 f5⟩
  self := fun A i s Q E ⟨⟨_, he⟩, _⟩ h => wpAny_pyIter_enum he h
def iEnumU (K : PySem.W.Frag) (ta : TA) : TI := fun σ H R => ta σ H fun vs H1 => ∃ a, vs = [.ref a] ∧ ((∃ xs, SqL K H1 a xs ∧ R (Ite K a) H1) ∨ ∃ xs, SqT K H1 a xs ∧ R (IteT K a) H1)
theorem pi_enumU {X : Cx} {K : PySem.W.Frag} {e : Expr} {ta : TA} {p pos tpos : Pos} {elts : List Expr} {kk : Nat} (hK : X.K = K) (hg : Gl X "enumerate") (hm : X.mg "enumerate" = none) (ha : PA X [e] ta) (hs : starEach [e] X.env = [(false, eval e X.env)] := by rfl) :
    PI X (.Tuple elts kk tpos) (.Call (.Name "enumerate" p) [e] [] pos) (iEnumU K ta) := by
  subst hK
  refine ⟨fun pins s σ H R I h => Call_ (ld_blt I hg hm boot_enumerate (PyProof.Rows.callWith_type1 (thn (ha.run pos pins s σ H _ I h) fun us s1 ⟨vs, H1, I1, r1, q1⟩ => ?_) hs rfl))⟩
  obtain ⟨a, rfl, q⟩ := q1
  cases r1 with
  | cons r rr =>
    cases rr
    cases r
    have fpk : ∀ b ∈ [s1.heap.objs.size + 1, s1.heap.objs.size], FpOk X pins H1 b := fun b hb => by
      have hle : s1.heap.objs.size ≤ b := by
        rcases (show b = s1.heap.objs.size + 1 ∨ b = s1.heap.objs.size by simpa using hb) with rfl | rfl <;> omega
      exact I1.fpOk hle (I1.hok.fresh hle)
    rcases q with ⟨xs, hq, q⟩ | ⟨xs, hq, q⟩
    · obtain ⟨its, rv, p', hz⟩ := I1.list hq
      refine enumB (begins_list a its.toArray) p'.isList fun h' he hit hk => wpAny_pyIter_enum he ?_
      exact ⟨s1.heap.objs.size + 1, _, _, _, H1, rfl, I1.kept (t' := s1.toks) hk, turn_enum a (s1.heap.objs.size + 1) s1.heap.objs.size, ⟨⟨.none, he⟩, ⟨_, hit, rfl, rfl⟩, Nat.succ_ne_self _⟩, fpk, q⟩
    · obtain ⟨its, rv, p', hz⟩ := I1.tuple hq
      refine enumB (begins_tuple a its.toArray) (show s1.heap.IsTuple a its.toArray from p') fun h' he hit hk => wpAny_pyIter_enum he ?_
      exact ⟨s1.heap.objs.size + 1, _, _, _, H1, rfl, I1.kept (t' := s1.toks) hk, turn_enumT a (s1.heap.objs.size + 1) s1.heap.objs.size, ⟨⟨.none, he⟩, ⟨_, hit, rfl, rfl⟩, Nat.succ_ne_self _⟩, fpk, q⟩
end Mw

set_option maxHeartbeats 4000000
namespace Mw
open PySem PySem.Spec PyProof.Rows L2
/-! ### name = {k: v for ..}, keys tuples, the name a local -/
section
variable {X : Cx} {kx vx tg iter : Expr} {ifs : List Expr} {scope : Scope} {own : List (Str × Nat)} {pos : Pos} {wi : TI} {g : TG} {tt : TT} {tk tv : TE}
theorem dcT_core {pins : List (Addr × Obj)} {s : Shared} {σ : L2.St} {H : Hp} {Q : VK} {pos' : Pos} {use : Option (Value → Sem Unit)} {Qf : Value → Shared → Prop} (I : Inv X pins σ H s) (hu : X.A.units + 1 < cLine) (hc : X.calm = true) (hN : X.N.Nodup) (hi : PI X tg iter wi) (ok : BlkOk X.N X.env.scope scope own)
    (hg : Blk X scope fun Y => PG Y tg g) (ht : Blk X scope fun Y => PTs Y ifs tt) (hk : Blk X scope fun Y => PE Y kx tk) (hv : Blk X scope fun Y => PE Y vx tv) (hs : ∀ x, foldedSetIterable iter X.env x = pure x) (h : tDcT wi g tt tk tv (own.map (·.2)) σ H Q)
    (hRR : ∀ D C s' m H', Inv X pins σ H' s' → Q (.ref D) H' → s'.heap.Ns C m → FpOk X pins H' C → compPost (model X.prog X.w) X.A X.xe use Qf (.ref D) C (.ok .next) s') :
    wpAny (model X.prog X.w) X.A (comprehension (.DictComp kx vx [⟨tg, iter, ifs, 0⟩] scope pos) scope X.env pos' newDict false (eval iter X.env) use) Qf X.xe s := by
  have frees : ∀ y ∈ scope.names, y.2 = .free → ∃ c, X.env.cells.lookup y.1 = some c := fun y hy e => (ok.free y hy e).elim (fun k => I.ok.has _ (.inl k)) fun k => I.ok.has _ (.inr k)
  refine wpAny_comprehension_free (use := use) rfl hs (closure_ok frees) ok.kind (fun y hy e => by rw [ok.uniq y hy, e]) (thn (hi.run pins s σ H _ I h) fun _ _ hx => thn hx fun _ s2 ⟨it, fp, tn, J, H2, e, I2, T, st2, f2, q⟩ => ?_)
  subst e
  refine wpAny_newObj_type (newEnv_comp ?_)
  obtain ⟨D, hD⟩ : ∃ D, D = s2.heap.objs.size := ⟨_, rfl⟩
  obtain ⟨W, ⟨m0, w0⟩, turn⟩ := q D (I2.hok.fresh (Nat.le_of_eq hD.symm))
  obtain ⟨s3, hs3⟩ : ∃ s3 : Shared, s3 = { s2 with heap := s2.heap.push { cls := .type "dict", data := .dict #[] } } := ⟨_, rfl⟩
  obtain ⟨H3, hH3⟩ : ∃ H3, H3 = upd H2 D (.dT []) := ⟨_, rfl⟩
  rw [← hH3] at w0
  have keep3 : ∀ b o, s2.heap.get? b = some o → s3.heap.get? b = some o := fun b o e => by rw [hs3]; exact Heap.get?_push_of_some _ e
  have I3 : Inv X pins σ H3 s3 := by
    rw [hs3, hH3, hD]
    exact I2.laid (t' := s2.toks) (fun b o e => Heap.get?_push_of_some _ e) (Nat.le_refl _) (dt_empty s2.heap I2.big)
  have f3 : ∀ b ∈ fp, FpOk X pins H3 b ∧ b < s3.heap.objs.size := fun b hb => by
    obtain ⟨o, e, _⟩ := T.obj _ _ st2 b hb
    have hlt := Heap.lt_size e
    refine ⟨⟨?_, (f2 b hb).2⟩, Heap.lt_size (keep3 b o e)⟩
    rw [hH3, upd_ne (by rw [hD]; exact Nat.ne_of_lt hlt)]
    exact (f2 b hb).1
  have I4 := block_start I3 ok hN f3
  have st3 : tn 0 s3.heap := T.keep _ _ _ st2 fun b _ o e => keep3 b o e
  obtain ⟨cl, hcl⟩ : ∃ cl, cl = cellsFrom (s3.heap.objs.size + 1) scope.names (cloFrom X.env.cells scope.names []) := ⟨_, rfl⟩
  have pg := hg s3 H3 s3.heap.objs.size cl fp
  have pt := ht s3 H3 s3.heap.objs.size cl fp
  have pk := hk s3 H3 s3.heap.objs.size cl fp
  have pv := hv s3 H3 s3.heap.objs.size cl fp
  have nfp : ∀ b ∈ fp, H3 b = none := fun b hb => (f3 b hb).1.1
  rw [← hcl] at I4
  obtain ⟨ce, hce⟩ : ∃ ce, ce = compEnvC scope cl s3.heap.objs.size X.env := ⟨_, rfl⟩
  obtain ⟨s4, hs4⟩ : ∃ s4 : Shared, s4 = { s3 with heap := pushCells (s3.heap.push { cls := .type "dict", data := .dict #[] }) scope.names } := ⟨_, rfl⟩
  rw [← hce] at I4 pg pt pk pv
  rw [← hs4] at I4
  have cL : ce.locals = s3.heap.objs.size := by rw [hce]; rfl
  suffices goal' : codeAny (model X.prog X.w) X.A (.compStart (.DictComp kx vx [⟨tg, iter, ifs, 0⟩] scope pos) 0 (.ref it) (.ref D) ce) (compPost (model X.prog X.w) X.A X.xe use Qf (.ref D) s3.heap.objs.size) s4 by
    rw [hce, hcl, hs4, hs3, hD] at goal'
    exact goal'
  have st4 : tn 0 s4.heap := T.keep _ _ _ st3 fun b _ o e => by rw [hs4]; exact pushCells_keeps _ _ _ _ (Heap.get?_push_of_some _ e)
  let Y := X.blk s3 H3 scope ce fp
  have own_ok : ∀ {σ' : L2.St} {H' : Hp} {s' : Shared}, Inv Y [] σ' H' s' → (∀ b ∈ fp, H' b = none) → ∀ b ∈ fp, FpOk Y [] H' b := fun {σ' H' s'} I' hn b hb =>
    ⟨hn b hb, (I'.ok.exf b hb).1, I'.ok.exfs b hb, .inl hb, fun x c e => (I'.ok.exf b hb).2 x c e, fun p hp => absurd (show p ∈ ([] : List (Addr × Obj)) ++ [] from hp) (by simp)⟩
  have loop : codeAny (model X.prog X.w) X.A (.compLoop (.DictComp kx vx [⟨tg, iter, ifs, 0⟩] scope pos) 0 (.ref it) (.ref D) ce) (compPost (model X.prog X.w) X.A X.xe use Qf (.ref D) s3.heap.objs.size) s4 := by
    refine compLoop_anyD (fun n s' => ∃ i H', Inv Y [] (wipe σ (own.map (·.2))) H' s' ∧ tn i s'.heap ∧ (∀ b ∈ fp, H' b = none) ∧ W i n H') ?_ m0 ⟨0, H3, I4, st4, nfp, w0⟩
    rintro n s5 ⟨i, H5, I5, st5, n5, w5⟩
    rcases turn i n H5 w5 with ⟨stop, qq⟩ | ⟨go, Nx, hNx, step⟩
    · refine thnF (T.done Y rfl rfl rfl hc i [] s5 _ H5 (fun _ _ => False) I5 (own_ok I5 n5) st5 stop) fun r s6 ⟨hr, I6⟩ => ?_
      subst hr
      have I7 : Inv X pins σ H5 s6 := I3.call' (ch := fp) I6.os I6.base I6.hok I6.bare fun b hb => ⟨(f3 b hb).1.2.2.2.1, (f3 b hb).1.2.1, (f3 b hb).1.2.2.2.2.1, (f3 b hb).1.2.2.2.2.2⟩
      have nC : H5 s3.heap.objs.size = none := by rw [← cL]; exact I6.free
      obtain ⟨m, hn, _⟩ := I6.loc
      have hn' : s6.heap.Ns s3.heap.objs.size m := by rw [← cL]; exact hn
      exact hRR D s3.heap.objs.size s6 m H5 I7 qq hn' (I3.fpOk (Nat.le_refl _) nC)
    · refine thnF (T.item Y rfl rfl rfl hc i [] s5 _ H5 (fun _ _ => False) I5 (own_ok I5 n5) st5 go) fun r s6 ⟨u, hr, h6⟩ => ?_
      subst hr
      refine thnF h6 fun _ s7 ⟨x, H7, I7, r7, y7, st7, n7⟩ => ?_
      have I7' := I7.pinned (own_ok I7 n7) (T.obj _ _ st7)
      refine thnF (pg.run _ s7 _ H7 x u _ I7' r7 (step x H7 y7)) fun _ s8 ⟨σ8, H8, I8, hw8, q8⟩ => ?_
      refine thnF (pt.run _ s8 σ8 H8 _ I8 q8) fun b s9 ⟨H9, I9, q9⟩ => ?_
      have fin : ∀ {s' : Shared} {H' : Hp}, Inv Y ([] ++ pinsAt fp s7.heap) σ8 H' s' → Nx H' → ∃ m, m < n ∧ ∃ i H', Inv Y [] (wipe σ (own.map (·.2))) H' s' ∧ tn i s'.heap ∧ (∀ b ∈ fp, H' b = none) ∧ W i m H' := fun {s' H'} I' nx => by
        obtain ⟨m', hm, w'⟩ := hNx H' nx
        have pin : ∀ b ∈ fp, ∀ o, s7.heap.get? b = some o → s'.heap.get? b = some o ∧ H' b = none := fun b hb o e => by
          have z := I'.pin (b, o) (List.mem_append_right _ (List.mem_append_right _ (mem_pinsAt hb e)))
          exact ⟨z.1, z.2.1⟩
        refine ⟨m', hm, i + 1, H', (I'.unpinned (pins := [])).weak (by rw [← hw8, wipe_length]) (fun j v e => by rw [← hw8] at e; exact (wipe_some e).1), T.keep _ _ _ st7 fun b hb o e => (pin b hb o e).1, fun b hb => ?_, w'⟩
        obtain ⟨o, e, _⟩ := T.obj _ _ st7 b hb
        exact (pin b hb o e).2
      cases b with
      | false =>
        simp only [Bool.false_eq_true, if_false] at q9 ⊢
        exact fin I9 q9
      | true =>
        simp only [if_true] at q9 ⊢
        refine thnF (pk.run _ s9 σ8 H9 _ I9 q9) fun z s10 ⟨yk, H10, I10, r10, q10⟩ => ?_
        refine thnF (pv.run _ s10 σ8 H10 _ I10 q10) fun z2 s11 ⟨yv, H11, I11, r11, kvs, k, kb, ek, hkb, hD11, hz11, nx⟩ => ?_
        subst ek
        obtain rfl : z = Value.ref kb := r10
        exact setT (X := Y) hu I11 hD11 hkb hz11 r11 fun s12 I12 => fin I12 nx
  exact codeAny_compStart_dict loop (T.self X.A 0 _ _ _ st4 loop)
theorem ps_setDcT {i : Nat} {y : Str} {py spos : Pos} (hu : X.A.units + 1 < cLine) (hc : X.calm = true) (hN : X.N.Nodup) (hy : X.N[i]? = some y) (hyl : X.env.scope.names.lookup y = some .local) (hsw : swapsWith (.DictComp kx vx [⟨tg, iter, ifs, 0⟩] scope pos) (some (.Name y py)) spos.line X.env = pure true)
    (hi : PI X tg iter wi) (ok : BlkOk X.N X.env.scope scope own) (hg : Blk X scope fun Y => PG Y tg g) (ht : Blk X scope fun Y => PTs Y ifs tt) (hk : Blk X scope fun Y => PE Y kx tk) (hv : Blk X scope fun Y => PE Y vx tv) (hs : ∀ x, foldedSetIterable iter X.env x = pure x := by intro _; rfl) :
    PS X (.Assign [.Name y py] (.DictComp kx vx [⟨tg, iter, ifs, 0⟩] scope pos) spos) (tAsg (tDcT wi g tt tk tv (own.map (·.2))) (gName i)) := by
  refine ⟨fun pins s σ H D I h => ?_⟩
  rw [exec_Assign_Name_used _ _ _ _ hsw]
  refine wpAny_bind (wpAny_standAt (wpAny_bind ?_))
  show wpAny _ X.A (do let _ ← comprehension (.DictComp kx vx [⟨tg, iter, ifs, 0⟩] scope pos) scope X.env (firstIterPos [⟨tg, iter, ifs, 0⟩] pos) newDict false (eval iter X.env) (some (assign (.Name y py) X.env))) _ _ s
  have h : tDcT wi g tt tk tv (own.map (·.2)) σ H (fun x H1 => gName i x σ H1 D.nx) := h
  refine wpAny_bind (thn (dcT_core (Qf := fun _ s' => SP X pins D .next s') I hu hc hN hi ok hg ht hk hv hs h fun L C s' m H' I' q hn f => ?_) fun _ s' hq => wpAny_pure (wpAny_pure hq))
  show wpAny _ _ (assign (.Name y py) X.env (.ref L)) _ _ _
  obtain ⟨e0, e1, e2, e3, e4, e5⟩ := f
  refine wpAny_assign_Name (store_ok2 (v := V.ref L) I' hN hy (.inl hyl) rfl (fun s2 I2 ⟨a, sb, ha⟩ => ?_) (.inr hyl))
  have haC : C ≠ a := ha.elim (fun z => by rw [z]; exact e1) fun z e => e4 y a z e.symm
  exact ⟨m, hn.sameBut sb haC, fun h3 sb3 => ⟨_, H', I2.turned (t' := s2.toks) (fun b o hb e => (sb3.2 b hb).trans e) e0 e1 e3 e4 e5, q⟩⟩
theorem sw_dc {gs : List Comprehension} {sc : Scope} {p py : Pos} {y : Str} {l : Nat} {env : Env} (h1 : env.scope.kind = .function) (h2 : env.scope.names.lookup y = some .local) (h3 : (py.line == p.line) = true)
    (h4 : (sc.names.any fun (n, k) => n == y && (k == .local || k == .cell)) = false) : swapsWith (.DictComp kx vx gs sc p) (some (.Name y py)) l env = pure true := by
  have a1 : env.kindOf y = some .local := h2
  have a2 : env.blockKind = .function := by unfold Env.blockKind; rw [h1]; rfl
  unfold swapsWith
  simp only [a2, a1, h4, Expr.pos, h3]
  rfl
theorem ps_setDcA {i : Nat} {y : Str} {py spos : Pos} {vs : List Nat} (hvv : own.map (·.2) = vs) (hu : X.A.units + 1 < cLine) (hc : X.calm = true) (hN : X.N.Nodup) (hy : X.N[i]? = some y) (hyl : X.env.scope.names.lookup y = some .local) (hsw : swapsWith (.DictComp kx vx [⟨tg, iter, ifs, 0⟩] scope pos) (some (.Name y py)) spos.line X.env = pure true)
    (hi : PI X tg iter wi) (ok : BlkOk X.N X.env.scope scope own) (hg : Blk X scope fun Y => PG Y tg g) (ht : Blk X scope fun Y => PTs Y ifs tt) (hk : Blk X scope fun Y => PE Y kx tk) (hv : Blk X scope fun Y => PE Y vx tv) (hs : ∀ x, foldedSetIterable iter X.env x = pure x := by intro _; rfl) :
    PS X (.Assign [.Name y py] (.DictComp kx vx [⟨tg, iter, ifs, 0⟩] scope pos) spos) (tAsg (tDcT wi g tt tk tv vs) (gName i)) := hvv ▸ ps_setDcT hu hc hN hy hyl hsw hi ok hg ht hk hv hs
end
end Mw

set_option maxHeartbeats 4000000
/-! AwP: enumerate, d.get. -/
namespace Aw
open PySem PySem.Spec PyProof.Rows L2 Mw Lw
def enFrom (n : Nat) : List PyData → List W
  | [] => []
  | d :: ds => .d (.tuple [.int (n : Nat), d]) :: enFrom (n + 1) ds
abbrev enL (ds : List PyData) : List W := enFrom 0 ds
theorem enFrom_get : ∀ (ds : List PyData) (n i : Nat), (enFrom n ds)[i]? = (ds[i]?).map fun d => W.d (.tuple [.int ((n + i : Nat) : Int), d])
  | [], n, i => by simp [enFrom]
  | d :: ds, n, 0 => by simp [enFrom]
  | d :: ds, n, i + 1 => by
    rw [enFrom, List.getElem?_cons_succ, enFrom_get ds (n + 1) i, List.getElem?_cons_succ]
    rw [show n + 1 + i = n + (i + 1) by omega]
theorem enL_get (ds : List PyData) (i : Nat) : (enL ds)[i]? = (ds[i]?).map fun d => W.d (.tuple [.int (i : Int), d]) := by
  rw [enFrom_get, Nat.zero_add]
theorem enFrom_len : ∀ (ds : List PyData) (n : Nat), (enFrom n ds).length = ds.length
  | [], _ => rfl
  | d :: ds, n => by rw [enFrom, List.length_cons, enFrom_len ds, List.length_cons]
def enW (σ : Sto) (R : List W → (Sto → Prop) → Sto → Prop) : W → Prop
  | .d (.list ds) => R (enL ds) (fun _ => True) σ
  | .d (.tuple ds) => R (enL ds) (fun _ => True) σ
  | .ref i => ∃ ds, σ[i]? = some (.lst (ds.map .d)) ∧ R (enL ds) (fun σ' => σ'[i]? = some (.lst (ds.map .d))) σ
  | _ => False
def aEnum (fr : AA) : AI := fun e σ R X => fr e σ (fun ws σ1 => ∃ w, ws = [w] ∧ enW σ1 R w) X
section
variable {Z : Zx} {E : L2.St → XK} {ta tb tc : TE} {fa fb fc : AE} {t : TA} {fr : AA} {K : PySem.W.Frag}
theorem wrs_rpAll {ρ : List Addr} {H : Hp} : ∀ {vs : List V} {ds : List PyData}, WRs K ρ H vs (ds.map .d) → RpAll K ρ H vs ds
  | _, [], h => by cases h; exact .nil
  | _, d :: ds, h => by
    cases h with
    | cons h t => exact .cons h (wrs_rpAll t)
theorem it_en {ρ : List Addr} {H : Hp} {ds : List PyData} {stay : Sto → Prop} {J : It} {sq : Hp → List V → Prop}
    (h : ∀ ρ' σ' H', Go Z.T ρ H ρ' H' → Rel Z.K Z.T ρ' σ' H' → stay σ' → ∃ xs, sq H' xs ∧ RpAll Z.K ρ' H' xs ds)
    (hgo : ∀ i H xs x, sq H xs → xs[i]? = some x → J.go i H) (hst : ∀ i H xs, sq H xs → xs.length ≤ i → J.stop i H)
    (hy : ∀ i H v H' xs, sq H xs → J.yld i H v H' → ∃ T x, v = .ref T ∧ H T = none ∧ H' = upd H T (.tup [.int (i : Nat), x]) ∧ xs[i]? = some x) : ItR Z ρ H J (enL ds) stay := fun ρ' σ' H' g r st => by
  obtain ⟨xs, s1, wr⟩ := h ρ' σ' H' g r st
  refine ⟨fun i w hw => ?_, hst _ _ xs s1 (by rw [enFrom_len, rpAll_len wr]; exact Nat.le_refl _)⟩
  rw [enL_get] at hw
  obtain ⟨d, hd, rfl⟩ := Option.map_eq_some_iff.mp hw
  obtain ⟨x, hx, rx⟩ := rpAll_get wr hd
  refine ⟨hgo _ _ _ x s1 hx, fun y H2 yl => ?_⟩
  obtain ⟨T, x', rfl, hn, rfl, hx'⟩ := hy _ _ _ _ xs s1 yl
  rw [hx] at hx'
  cases hx'
  exact ⟨Go.lay hn, r.lay hn, Rp.tup upd_same (.cons (.int _) (.cons (Go.rp r (Go.lay hn) rx) .nil))⟩
theorem en_L {a : Addr} {ρ : List Addr} {H : Hp} {ds : List PyData} {stay : Sto → Prop} (h : ∀ ρ' σ' H', Go Z.T ρ H ρ' H' → Rel Z.K Z.T ρ' σ' H' → stay σ' → ∃ xs, SqL Z.K H' a xs ∧ RpAll Z.K ρ' H' xs ds) : ItR Z ρ H (Ite Z.K a) (enL ds) stay :=
  it_en (sq := fun H xs => SqL Z.K H a xs) h (fun i H xs x s hx => ⟨xs, x, s, hx⟩) (fun i H xs s hl => ⟨xs, s, hl⟩) fun i H v H' xs s ⟨T, x, h1, h2, h3, h4⟩ => ⟨T, x, h1, h2, h3, h4 xs s⟩
theorem en_T {a : Addr} {ρ : List Addr} {H : Hp} {ds : List PyData} {stay : Sto → Prop} (h : ∀ ρ' σ' H', Go Z.T ρ H ρ' H' → Rel Z.K Z.T ρ' σ' H' → stay σ' → ∃ xs, SqT Z.K H' a xs ∧ RpAll Z.K ρ' H' xs ds) : ItR Z ρ H (IteT Z.K a) (enL ds) stay :=
  it_en (sq := fun H xs => SqT Z.K H a xs) h (fun i H xs x s hx => ⟨xs, x, s, hx⟩) (fun i H xs s hl => ⟨xs, s, hl⟩) fun i H v H' xs s ⟨T, x, h1, h2, h3, h4⟩ => ⟨T, x, h1, h2, h3, h4 xs s⟩
theorem enW_sim {ρ : List Addr} {σ : Sto} {H : Hp} {x : V} {Ra : List W → (Sto → Prop) → Sto → Prop} {R : It → Hp → Prop} (rl : Rel Z.K Z.T ρ σ H) : ∀ {w : W}, WR Z.K ρ H x w → enW σ Ra w → KI Z ρ H Ra R →
    ∃ a, [x] = [.ref a] ∧ ((∃ xs, SqL Z.K H a xs ∧ R (Ite Z.K a) H) ∨ ∃ xs, SqT Z.K H a xs ∧ R (IteT Z.K a) H)
  | .d (.list ds), h, q, k => by
    have h : Rp Z.K ρ H x (.list ds) := h
    cases h with
    | lst h1 h2 =>
      refine ⟨_, rfl, .inl ⟨_, .inl h1.2, k _ _ _ _ _ _ .refl rl (en_L fun ρ' σ' H' g r _ => ?_) q⟩⟩
      exact ⟨_, .inl (g.sqO rl h1).2, g.rpAll rl h2⟩
  | .d (.tuple ds), h, q, k => by
    obtain ⟨a, xs, rfl, h1, h2⟩ := h.tup
    refine ⟨_, rfl, .inr ⟨_, .inl (.inl h1), k _ _ _ _ _ _ .refl rl (en_T fun ρ' σ' H' g r _ => ?_) q⟩⟩
    exact ⟨_, .inl (.inl (g.tup rl h1)), g.rpAll rl h2⟩
  | .ref i, h, q, k => by
    obtain ⟨a, ha, rfl⟩ := h
    obtain ⟨ds, hc, q⟩ := q
    obtain ⟨xs, e1, e2⟩ := rl.cell i a _ ha hc
    refine ⟨_, rfl, .inl ⟨_, .inl (.inl e1), k _ _ _ _ _ _ .refl rl (en_L fun ρ' σ' H' g r st => ?_) q⟩⟩
    obtain ⟨ys, e3, e4⟩ := r.cell i a _ (g.at_ ha) st
    exact ⟨ys, .inl (.inl e3), wrs_rpAll e4⟩
  | .d .none, _, q, _ => q.elim
  | .d (.bool _), _, q, _ => q.elim
  | .d (.int _), _, q, _ => q.elim
  | .d (.str _), _, q, _ => q.elim
  | .d (.dict _), _, q, _ => q.elim
  | .scr _, _, q, _ => q.elim
instance sim_enum [ir : SimA Z E t fr] : SimI Z E (iEnumU Z.K t) (aEnum fr) := ⟨fun r er h k kx =>
  ir.sim r er h (fun _ _ _ _ _ g r' v h' => by
    obtain ⟨w, rfl, q⟩ := h'
    cases v with
    | cons v1 v2 =>
      cases v2
      exact enW_sim r' v1 q (k.go g)) kx⟩
instance [MoA fr] : MoI (aEnum fr) := ⟨fun k q => MoA.mo (f := fr) (fun _ _ ⟨w, h, q⟩ => ⟨w, h, by
  cases w with
  | ref i => obtain ⟨ds, h, q⟩ := q; exact ⟨ds, h, k _ _ _ q⟩
  | scr i => exact q.elim
  | d x => cases x <;> first | exact q.elim | exact k _ _ _ q⟩) q⟩
/-! ### d.get -/
noncomputable def gtW (Q : QK) (w y z : W) (σ : Sto) : Prop := ∃ i t kvs kd, w = .ref i ∧ σ[i]? = some (.dct t kvs) ∧ y = .d kd ∧ (if t = true then isKT kd = true else isK kd = true) ∧ Q ((dget kvs kd).getD z) σ
noncomputable def aGet1 (fd fk : AE) : AE := fun e σ Q X => fd e σ (fun w σ1 => (prsOf σ1 w).isSome = true ∧ fk e σ1 (fun y σ2 => gtW Q w y (.d .none) σ2) X) X
noncomputable def aGet2 (fd fk fx : AE) : AE := fun e σ Q X => fd e σ (fun w σ1 => (prsOf σ1 w).isSome = true ∧ fk e σ1 (fun y σ2 => fx e σ2 (fun z σ3 => gtW Q w y z σ3) X) X) X
theorem prs_isD {ρ : List Addr} {σ : Sto} {H : Hp} {v : V} {w : W} (rl : Rel Z.K Z.T ρ σ H) (h : WR Z.K ρ H v w) (e : (prsOf σ w).isSome = true) : ∃ a, v = .ref a ∧ IsD H a := by
  obtain ⟨kvs, hk⟩ := Option.isSome_iff_exists.mp e
  obtain ⟨a, rfl, hh⟩ := prsOf_rd rl h hk
  rcases hh with ⟨hk, r, _⟩ | ⟨hk, r, _⟩
  · exact ⟨a, rfl, .inl ⟨hk, r⟩⟩
  · exact ⟨a, rfl, .inr ⟨hk, r⟩⟩
theorem gt_sim {ρ : List Addr} {σ : Sto} {H : Hp} {a : Addr} {y z : V} {w wy wz : W} {Qa : QK} {Q : VK} (rl : Rel Z.K Z.T ρ σ H) (va : WR Z.K ρ H (.ref a) w) (vy : WR Z.K ρ H y wy) (vz : WR Z.K ρ H z wz) (q : gtW Qa w wy wz σ) (kq : KQ Z ρ H Qa Q) : ∃ o, DGet H a y o ∧ Q (o.getD z) H := by
  obtain ⟨i, t, kvs, kd, rfl, hc, rfl, hk, q⟩ := q
  obtain ⟨b, hb, e⟩ := va
  cases e
  have fin : ∀ {o : Option V}, ORw Z.K ρ H o (dget kvs kd) → Q (o.getD z) H := fun {o} h => by
    cases ho : dget kvs kd with
    | none =>
      rw [ho] at h q
      cases o with
      | none => exact kq _ _ _ _ _ .refl rl vz q
      | some v => exact h.elim
    | some w' =>
      rw [ho] at h q
      cases o with
      | none => exact h.elim
      | some v => exact kq _ _ _ _ _ .refl rl h q
  cases t with
  | true =>
    rw [if_pos rfl] at hk
    obtain ⟨ks, rfl⟩ := isKT_of hk
    obtain ⟨b, rfl, hb'⟩ := rp_keyT vy
    obtain ⟨hkv, e1, e2⟩ := rl.cell i a _ hb hc
    exact ⟨_, .inr ⟨hkv, ks, b, .inl e1, rfl, hb', rfl⟩, fin (prs_get (fun _ _ => kT_inj) ks e2)⟩
  | false =>
    rw [if_neg (by decide)] at hk
    obtain ⟨ks, rfl⟩ := isK_of hk
    have ev := rp_key vy
    subst ev
    obtain ⟨hkv, e1, e2⟩ := rl.cell i a _ hb hc
    exact ⟨_, .inl ⟨hkv, ks, .inl e1, rfl, rfl⟩, fin (prs_get (fun _ _ => kD_inj) ks e2)⟩
instance sim_get1 [ia : SimE Z E ta fa] [ib : SimE Z E tb fb] : SimE Z E (tDGet1 ta tb) (aGet1 fa fb) := ⟨fun r er h kq kx =>
  ia.sim r er h (fun _ _ _ _ _ g1 r1 v1 h1 => by
    obtain ⟨a, rfl, hd⟩ := prs_isD r1 v1 h1.1
    refine ⟨a, rfl, hd, ib.sim r1 (g1.er r er) h1.2 (fun _ _ _ _ _ g2 r2 v2 h2 => ?_) (kx.go g1)⟩
    exact gt_sim r2 (g2.wr r1 v1) v2 (w := _) (wz := .d .none) Rp.non h2 (kq.go (g1.trans g2))) kx⟩
instance sim_get2 [ia : SimE Z E ta fa] [ib : SimE Z E tb fb] [ic : SimE Z E tc fc] : SimE Z E (tDGet2 ta tb tc) (aGet2 fa fb fc) := ⟨fun r er h kq kx =>
  ia.sim r er h (fun _ _ _ _ _ g1 r1 v1 h1 => by
    obtain ⟨a, rfl, hd⟩ := prs_isD r1 v1 h1.1
    refine ⟨a, rfl, hd, ib.sim r1 (g1.er r er) h1.2 (fun _ _ _ _ _ g2 r2 v2 h2 => ?_) (kx.go g1)⟩
    exact ic.sim r2 ((g1.trans g2).er r er) h2 (fun _ _ _ _ _ g3 r3 v3 h3 => gt_sim r3 ((g2.trans g3).wr r1 v1) (g3.wr r2 v2) v3 h3 (kq.go ((g1.trans g2).trans g3))) (kx.go (g1.trans g2))) kx⟩
theorem gtW.mo {Q Q' : QK} (k : ∀ w s, Q w s → Q' w s) {w y z : W} {σ : Sto} (h : gtW Q w y z σ) : gtW Q' w y z σ := let ⟨i, t, kvs, kd, h1, h2, h3, h4, q⟩ := h; ⟨i, t, kvs, kd, h1, h2, h3, h4, k _ _ q⟩
instance [MoE fa] [MoE fb] : MoE (aGet1 fa fb) := ⟨fun k q => MoE.mo (f := fa) (fun _ _ ⟨h, q⟩ => ⟨h, MoE.mo (f := fb) (fun _ _ q => gtW.mo k q) q⟩) q⟩
instance [MoE fa] [MoE fb] [MoE fc] : MoE (aGet2 fa fb fc) := ⟨fun k q => MoE.mo (f := fa) (fun _ _ ⟨h, q⟩ => ⟨h, MoE.mo (f := fb) (fun _ _ q => MoE.mo (f := fc) (fun _ _ q => gtW.mo k q) q) q⟩) q⟩
theorem r_get1 {e : Ev} {σ : Sto} {Q : QK} {X : XQ} (h : fa e σ (fun w σ1 => (prsOf σ1 w).isSome = true ∧ fb e σ1 (fun y σ2 => gtW Q w y (.d .none) σ2) X) X) : aGet1 fa fb e σ Q X := h
theorem r_get2 {e : Ev} {σ : Sto} {Q : QK} {X : XQ} (h : fa e σ (fun w σ1 => (prsOf σ1 w).isSome = true ∧ fb e σ1 (fun y σ2 => fc e σ2 (fun z σ3 => gtW Q w y z σ3) X) X) X) : aGet2 fa fb fc e σ Q X := h
theorem r_gt {σ : Sto} {Q : QK} {i : Nat} {t : Bool} {kvs : List (PyData × W)} {kd : PyData} {z : W} (hc : σ[i]? = some (.dct t kvs)) (hk : if t = true then isKT kd = true else isK kd = true) (q : Q ((dget kvs kd).getD z) σ) : gtW Q (.ref i) (.d kd) z σ := ⟨i, t, kvs, kd, rfl, hc, rfl, hk, q⟩
theorem r_en {e : Ev} {σ : Sto} {R : List W → (Sto → Prop) → Sto → Prop} {X : XQ} (h : fr e σ (fun ws σ1 => ∃ w, ws = [w] ∧ enW σ1 R w) X) : aEnum fr e σ R X := h
end
end Aw

set_option maxHeartbeats 8000000
set_option synthInstance.maxHeartbeats 2000000
set_option synthInstance.maxSize 100000
/-! L8P: k08: its own defs as abstract programs (generated). -/
namespace Lw
open PySem PySem.Spec PyProof.Rows L2 Mw Aw
noncomputable abbrev p8Nof : AS := (aRet (aTupG (aIt (aVar 0)) (agN 1) aYes (aOp ixW (aVar 1) (aD (.int 0))) [1]))
noncomputable abbrev p8By : AS := (aRet (aDcT (aIt (aVar 0)) (agN 1) aYes (aOp ixW (aVar 1) (aD (.int 0))) (aVar 1) [1]))
noncomputable abbrev p8Eby : AS := (aSeq (aAsg (aDcT (aIt (aVar 0)) (agN 3) aYes (aVar 3) (aD (.bool true)) [3]) (agN 2))
  (aSeq (aFor (aIt (aVar 0)) (agN 3)
    (aFor (aIt (aOp ixW (aVar 1) (aVar 3))) (agN 4)
    (aDPut (aVar 2) (aVar 4) (aD (.bool true)))))
  (aRet (aVar 2))))
noncomputable abbrev p8Kno (fEby : AF) : AS := (aSeq (aAsg (aDNew true) (agN 1))
  (aSeq (aFor (aIt (aVar 0)) (agN 2)
    (aDPut (aVar 1) (aOp ixW (aVar 2) (aD (.int 0))) (aCall fEby 2 (aCons (aOp ixW (aVar 2) (aD (.int 2))) (aCons (aVar 1) aNil)))))
  (aRet (aVar 1))))
noncomputable abbrev p8Brn (fNof : AF) : AS := (aRet (aTupG (aIt (aCall fNof 1 (aCons (aVar 0) aNil))) (agN 2) (aTest (aOp (ra2 (eqF false)) (aOp ixW (aVar 2) (aD (.int 1))) (aVar 1))) (aVar 2) [2]))
noncomputable abbrev p8Ein (fBy : AF) : AS := (aSeq (aAsg (aCall fBy 1 (aCons (aVar 1) aNil)) (agN 2))
  (aSeq (aFor (aIt (aVar 0)) (agN 3)
    (aDPut (aVar 2) (aOp ixW (aVar 3) (aD (.int 0))) (aVar 3)))
  (aRet (aTupG (aIt (aCB srtW (aCons (aVar 2) aNil))) (agN 4) aYes (aOp ixW (aVar 2) (aVar 4)) [4]))))
noncomputable abbrev p8Joi (fBrn fKno fBy fEin : AF) : AS := (aSeq (aAsg (aCall fEin 2 (aCons (aVar 0) (aCons (aVar 1) aNil))) (agN 2))
  (aSeq (aAsg (aCall fBy 1 (aCons (aVar 1) aNil)) (agN 3))
  (aSeq (aAsg (aCall fKno 1 (aCons (aVar 2) aNil)) (agN 4))
  (aSeq (aFor (aEnum (aCons (aVar 2) aNil)) (agT 2 (agCons (agN 5) (agCons (agN 6) agNil)))
    (aSeq (aAsg (aOp ixW (aVar 6) (aD (.int 0))) (agN 7))
  (aSeq (aIfS (aTest (aOp (ra2 (eqF true)) (aGet2 (aVar 3) (aVar 7) (aVar 6)) (aVar 6)))
    aNever
    aNext)
  (aSeq (aAsg (aCall fBrn 2 (aCons (aSl (aVar 2) aNoP (aPart (aVar 5))) (aCons (aOp ixW (aVar 7) (aD (.int 1))) aNil))) (agN 8))
  (aIfS (aNot (aTest (aAllG (aIt (aVar 8)) (agN 9) aYes (aOp (inW false) (aVar 9) (aOp ixW (aVar 4) (aVar 7))) [9] true)))
    aNever
    aNext)))))
  (aRet (aVar 2))))))
noncomputable abbrev p8Part (fDraw : AF) : AS := (aSeq (aAsg (aCB srtW (aCons (aOp ixW (aVar 1) (aD (.str "changes"))) aNil)) (agN 2))
  (aSeq (aAsg (aLst aNil) (agN 3))
  (aSeq (aFor (aR1 (aCons (aOp (ra2 mulD) (aOp ixW (aLst (aCons (aD (.int 0)) (aCons (aD (.int 1)) (aCons (aD (.int 2)) (aCons (aD (.int 3)) (aCons (aD (.int 16)) (aCons (aD (.int 2)) (aCons (aD (.int 1)) (aCons (aD (.int 1)) aNil))))))))) (aCall fDraw 2 (aCons (aVar 0) (aCons (aD (.int 8)) aNil)))) (aCB intW (aCons (aOp (ra2 (eqF true)) (aVar 2) (aLst aNil)) aNil))) aNil)) (agN 4)
    (aSeq (aAsg (aOp ixW (aVar 2) (aCall fDraw 2 (aCons (aVar 0) (aCons (aCB lenW (aCons (aVar 2) aNil)) aNil)))) (agN 5))
  (aAsg (aOp (ra2 addD) (aOp (ra2 addD) (aVar 3) (aOp ixW (aOp ixW (aVar 1) (aD (.str "knows"))) (aVar 5))) (aLst (aCons (aVar 5) aNil))) (agN 3))))
  (aRet (aVar 3)))))
noncomputable abbrev p8Law (fJoi fLedger fDraw fPart fWorld fWords fFeed : AF) : AS := (aSeq (aAsg (aCall fFeed 1 (aCons (aVar 0) aNil)) (agN 1))
  (aSeq (aAsg (aCall fWords 2 (aCons (aVar 1) (aCons (aOp (ra2 addD) (aD (.int 1)) (aCall fDraw 2 (aCons (aVar 1) (aCons (aD (.int 6)) aNil)))) aNil))) (agN 2))
  (aSeq (aAsg (aCall fWorld 3 (aCons (aVar 1) (aCons (aVar 2) (aCons (aCall fDraw 2 (aCons (aVar 1) (aCons (aD (.int 17)) aNil))) aNil)))) (agN 3))
  (aSeq (aAsg (aLc (aR1 (aCons (aD (.int 4)) aNil)) (agN 5) aYes (aCall fPart 2 (aCons (aVar 1) (aCons (aVar 3) aNil))) [5]) (agN 4))
  (aSeq (aAsg (aLc (aIt (aVar 4)) (agN 7) aYes (aCall fLedger 2 (aCons (aVar 3) (aCons (aVar 7) aNil))) [7]) (agN 6))
  (aSeq (aAsg (aCB reprW (aCons (aVar 6) aNil)) (agN 8))
  (aSeq (aFor (aIt (aTup (aCons (aTup (aCons (aD (.int 0)) (aCons (aD (.int 1)) aNil))) (aCons (aTup (aCons (aD (.int 1)) (aCons (aD (.int 2)) aNil))) (aCons (aTup (aCons (aD (.int 2)) (aCons (aD (.int 3)) aNil))) (aCons (aTup (aCons (aD (.int 0)) (aCons (aD (.int 1)) aNil))) aNil)))))) (agT 2 (agCons (agN 9) (agCons (agN 10) agNil)))
    (aSeq (aAsg (aCB reprW (aCons (aCall fLedger 2 (aCons (aVar 3) (aCons (aOp (ra2 addD) (aOp ixW (aVar 4) (aVar 9)) (aOp ixW (aVar 4) (aVar 10))) aNil))) aNil)) (agN 11))
  (aSeq (aIfS (aTest (aOp (ra2 (eqF true)) (aLst (aCons (aCB reprW (aCons (aCall fJoi 2 (aCons (aOp ixW (aVar 6) (aVar 9)) (aCons (aOp ixW (aVar 6) (aVar 10)) aNil))) aNil)) (aCons (aCB reprW (aCons (aCall fJoi 2 (aCons (aOp ixW (aVar 6) (aVar 10)) (aCons (aOp ixW (aVar 6) (aVar 9)) aNil))) aNil)) aNil))) (aLst (aCons (aVar 11) (aCons (aVar 11) aNil)))))
    (aRet (aD (.bool false)))
    aNext)
  (aSeq (aAsg (aOp ixW (aVar 6) (aVar 9)) (agN 12))
  (aSeq (aIfS (aTest (aOp (ra2 (eqF true)) (aLst (aCons (aCB reprW (aCons (aCall fJoi 2 (aCons (aVar 12) (aCons (aVar 12) aNil))) aNil)) (aCons (aCB reprW (aCons (aCall fJoi 2 (aCons (aVar 12) (aCons (aTup aNil) aNil))) aNil)) (aCons (aCB reprW (aCons (aCall fJoi 2 (aCons (aTup aNil) (aCons (aVar 12) aNil))) aNil)) aNil)))) (aOp repW (aLstC (aCons (aCB reprW (aCons (aVar 12) aNil)) aNil)) (aD (.int 3)))))
    (aRet (aD (.bool false)))
    aNext)
  (aSeq (aAsg (aCall fDraw 2 (aCons (aVar 1) (aCons (aD (.int 4)) aNil))) (agN 13))
  (aSeq (aAsg (aCB reprW (aCons (aCall fLedger 2 (aCons (aVar 3) (aCons (aOp (ra2 addD) (aOp (ra2 addD) (aOp ixW (aVar 4) (aVar 9)) (aOp ixW (aVar 4) (aVar 10))) (aOp ixW (aVar 4) (aVar 13))) aNil))) aNil)) (agN 11))
  (aSeq (aIfS (aTest (aOp (ra2 (eqF true)) (aCB reprW (aCons (aCall fJoi 2 (aCons (aCall fJoi 2 (aCons (aOp ixW (aVar 6) (aVar 9)) (aCons (aOp ixW (aVar 6) (aVar 10)) aNil))) (aCons (aOp ixW (aVar 6) (aVar 13)) aNil))) aNil)) (aVar 11)))
    (aRet (aD (.bool false)))
    aNext)
  (aIfS (aTest (aOp (ra2 (eqF true)) (aCB reprW (aCons (aCall fJoi 2 (aCons (aOp ixW (aVar 6) (aVar 9)) (aCons (aCall fJoi 2 (aCons (aOp ixW (aVar 6) (aVar 10)) (aCons (aOp ixW (aVar 6) (aVar 13)) aNil))) aNil))) aNil)) (aVar 11)))
    (aRet (aD (.bool false)))
    aNext)))))))))
  (aRet (aOp (ra2 (eqF false)) (aCB reprW (aCons (aVar 6) aNil)) (aVar 8))))))))))
end Lw

set_option maxHeartbeats 8000000
set_option synthInstance.maxHeartbeats 2000000
set_option synthInstance.maxSize 100000
/-! L5P: k05: its own defs as abstract programs (generated). -/
namespace Lw
open PySem PySem.Spec PyProof.Rows L2 Mw Aw
noncomputable abbrev p5Nof : AS := (aRet (aTupG (aIt (aVar 0)) (agN 1) aYes (aOp ixW (aVar 1) (aD (.int 0))) [1]))
noncomputable abbrev p5Tops (fNof : AF) : AS := (aSeq (aAsg (aDc2 (aIt (aVar 0)) (agN 2) aYes (aIt (aOp ixW (aVar 2) (aD (.int 2)))) (agN 3) aYes (aVar 3) (aD (.bool true)) [2, 3] [3]) (agN 1))
  (aRet (aTupG (aIt (aCall fNof 1 (aCons (aVar 0) aNil))) (agN 3) (aTest (aOp (inW true) (aVar 3) (aVar 1))) (aVar 3) [3])))
noncomputable abbrev p5Brn (fNof : AF) : AS := (aRet (aTupG (aIt (aCall fNof 1 (aCons (aVar 0) aNil))) (agN 2) (aTest (aOp (ra2 (eqF false)) (aOp ixW (aVar 2) (aD (.int 1))) (aVar 1))) (aVar 2) [2]))
noncomputable abbrev p5Part : AS := (aSeq (aAsg (aCB listW (aCons (aVar 1) aNil)) (agN 2))
  (aSeq (aFor (aIt (aVar 1)) (agN 3)
    (aAsg (aOp (ra2 addD) (aVar 2) (aOp ixW (aOp ixW (aVar 0) (aD (.str "knows"))) (aVar 3))) (agN 2)))
  (aRet (aLc (aIt (aCB srtW (aCons (aOp ixW (aVar 0) (aD (.str "changes"))) aNil))) (agN 3) (aTest (aOp (inW false) (aVar 3) (aVar 2))) (aVar 3) [3]))))
noncomputable abbrev p5Right (fBrn fTops fLedger : AF) : AS := (aSeq (aAsg (aCall fLedger 2 (aCons (aVar 0) (aCons (aVar 1) aNil))) (agN 3))
  (aSeq (aAsg (aCB reprW (aCons (aVar 3) aNil)) (agN 4))
  (aSeq (aAsg (aLst aNil) (agN 5))
  (aSeq (aFor (aIt (aVar 1)) (agN 6)
    (aAsg (aOp (ra2 addD) (aVar 5) (aOp ixW (aOp ixW (aVar 0) (aD (.str "knows"))) (aVar 6))) (agN 5)))
  (aSeq (aIfS (aTest (aOp (ra2 (eqF true)) (aCB reprW (aCons (aCall fTops 1 (aCons (aVar 3) aNil)) aNil)) (aCB reprW (aCons (aCB tupleW (aCons (aLc (aIt (aVar 1)) (agN 6) (aTest (aOp (inW true) (aVar 6) (aVar 5))) (aVar 6) [6]) aNil)) aNil))))
    (aRet (aD (.bool false)))
    aNext)
  (aSeq (aFor (aIt (aVar 2)) (agN 7)
    (aIfS (aTest (aOp (ra2 (eqF true)) (aCB reprW (aCons (aCall fBrn 2 (aCons (aVar 3) (aCons (aVar 7) aNil))) aNil)) (aCB reprW (aCons (aCB tupleW (aCons (aLc (aIt (aVar 1)) (agN 6) (aTest (aOp (ra2 (eqF false)) (aOp ixW (aVar 6) (aD (.int 1))) (aVar 7))) (aVar 6) [6]) aNil)) aNil))))
    (aRet (aD (.bool false)))
    aNext))
  (aRet (aOp (ra2 (eqF false)) (aCB reprW (aCons (aVar 3) aNil)) (aVar 4)))))))))
noncomputable abbrev p5Law (fRight fPart fDraw fWorld fWords fFeed : AF) : AS := (aSeq (aAsg (aCall fFeed 1 (aCons (aVar 0) aNil)) (agN 1))
  (aSeq (aAsg (aCall fWords 2 (aCons (aVar 1) (aCons (aOp (ra2 addD) (aD (.int 1)) (aCall fDraw 2 (aCons (aVar 1) (aCons (aD (.int 6)) aNil)))) aNil))) (agN 2))
  (aSeq (aAsg (aCall fWorld 3 (aCons (aVar 1) (aCons (aVar 2) (aCons (aCall fDraw 2 (aCons (aVar 1) (aCons (aD (.int 17)) aNil))) aNil)))) (agN 3))
  (aSeq (aAsg (aCB srtW (aCons (aOp ixW (aVar 3) (aD (.str "changes"))) aNil)) (agN 4))
  (aSeq (aAsg (aOp (ra2 addD) (aVar 2) (aLst (aCons (aSl (aOp (ra2 addD) (aOp ixW (aVar 2) (aD (.int 0))) (aD (.str "q"))) (aPart (aUn (ra1 negD) (aD (.int 8)))) aNoP) (aCons (aOp (ra2 addD) (aSl (aOp ixW (aVar 2) (aUn (ra1 negD) (aD (.int 1)))) aNoP (aPart (aUn (ra1 negD) (aD (.int 1))))) (aSl (aD (.str "zz")) (aPart (aOp (ra2 fdivD) (aCB lenW (aCons (aOp ixW (aVar 2) (aUn (ra1 negD) (aD (.int 1)))) aNil)) (aD (.int 8)))) aNoP)) (aCons (aD (.str "a")) aNil))))) (agN 5))
  (aSeq (aAsg (aLstC (aCons (aVar 4) aNil)) (agN 6))
  (aSeq (aFor (aR1 (aCons (aOp (ra2 mulD) (aD (.int 3)) (aCB intW (aCons (aOp (ra2 (eqF true)) (aVar 4) (aLst aNil)) aNil))) aNil)) (agN 7)
    (aDrop (aBM "list" appendW (aVar 6) (aCons (aCall fPart 2 (aCons (aVar 3) (aCons (aLc (aR1 (aCons (aOp (ra2 addD) (aD (.int 1)) (aCall fDraw 2 (aCons (aVar 1) (aCons (aD (.int 3)) aNil)))) aNil)) (agN 8) aYes (aOp ixW (aVar 4) (aCall fDraw 2 (aCons (aVar 1) (aCons (aCB lenW (aCons (aVar 4) aNil)) aNil)))) [8]) aNil))) aNil))))
  (aRet (aOp (ra2 (eqF false)) (aLc (aIt (aOp (ra2 addD) (aVar 6) (aLst (aCons (aLst aNil) (aCons (aVar 4) aNil))))) (agN 9) (aNot (aTest (aCall fRight 3 (aCons (aVar 3) (aCons (aVar 9) (aCons (aVar 5) aNil)))))) (aVar 9) [9]) (aLst aNil))))))))))
end Lw

set_option maxHeartbeats 8000000
set_option synthInstance.maxHeartbeats 2000000
set_option synthInstance.maxSize 100000
/-! L7P: k07: its own defs as abstract programs (generated). -/
namespace Lw
open PySem PySem.Spec PyProof.Rows L2 Mw Aw
noncomputable abbrev p7Names (fDraw : AF) : AS := (aSeq (aAsg (aCB srtW (aCons (aOp ixW (aVar 1) (aD (.str "changes"))) aNil)) (agN 3))
  (aSeq (aAsg (aLstC aNil) (agN 4))
  (aSeq (aFor (aR1 (aCons (aCall fDraw 2 (aCons (aVar 0) (aCons (aD (.int 5)) aNil))) aNil)) (agN 5)
    (aIfS (aAnd (aTest (aOp (ra2 (eqF true)) (aVar 3) (aLst aNil))) (aTest (aOp (ra2 (ordF fGt)) (aCall fDraw 2 (aCons (aVar 0) (aCons (aD (.int 4)) aNil))) (aD (.int 0)))))
    (aDrop (aBM "list" insertW (aVar 4) (aCons (aCall fDraw 2 (aCons (aVar 0) (aCons (aOp (ra2 addD) (aCB lenW (aCons (aVar 4) aNil)) (aD (.int 1))) aNil))) (aCons (aOp ixW (aVar 3) (aCall fDraw 2 (aCons (aVar 0) (aCons (aCB lenW (aCons (aVar 3) aNil)) aNil)))) aNil))))
    (aDrop (aBM "list" appendW (aVar 4) (aCons (aTup (aCons (aOp (ra2 addD) (aD (.int 1)) (aCall fDraw 2 (aCons (aVar 0) (aCons (aD (.int 20)) aNil)))) (aCons (aOp ixW (aVar 2) (aCall fDraw 2 (aCons (aVar 0) (aCons (aCB lenW (aCons (aVar 2) aNil)) aNil)))) aNil))) aNil)))))
  (aSeq (aIfS (aAnd (aTest (aOp (ra2 (eqF true)) (aVar 4) (aLst aNil))) (aTest (aOp (ra2 (eqF false)) (aCall fDraw 2 (aCons (aVar 0) (aCons (aD (.int 3)) aNil))) (aD (.int 0)))))
    (aAsg (aSl (aOp repW (aVar 4) (aD (.int 40))) aNoP (aPart (aOp ixW (aLst (aCons (aOp (ra2 addD) (aCB lenW (aCons (aVar 4) aNil)) (aD (.int 1))) (aCons (aD (.int 40)) aNil))) (aCall fDraw 2 (aCons (aVar 0) (aCons (aD (.int 2)) aNil)))))) (agN 4))
    aNext)
  (aRet (aCB tupleW (aCons (aVar 4) aNil)))))))
noncomputable abbrev p7Due (fLedger : AF) : AS := (aSeq (aLockS (aAsg (aLc (aIt (aOp ixW (aVar 0) (aD (.str "changes")))) (agN 3) (aTest (aOp (inW true) (aVar 3) (aVar 1))) (aVar 3) [3]) (agN 2)))
  (aSeq (aAsg (aLc (aIt (aVar 2)) (agN 3) (aTest (aOp (ra2 (eqF false)) (aLc (aIt (aOp ixW (aOp ixW (aVar 0) (aD (.str "knows"))) (aVar 3))) (agN 4) (aTest (aOp (inW false) (aVar 4) (aVar 1))) (aVar 4) [4]) (aLst aNil))) (aVar 3) [3]) (agN 2))
  (aRet (aCB reprW (aCons (aCall fLedger 2 (aCons (aVar 0) (aCons (aVar 2) aNil))) aNil)))))
noncomputable abbrev p7Law (fWo fDue fNames fLedger fWorld fDraw fWords fFeed : AF) : AS := (aSeq (aAsg (aCall fFeed 1 (aCons (aVar 0) aNil)) (agN 1))
  (aSeq (aAsg (aCall fWords 2 (aCons (aVar 1) (aCons (aOp (ra2 addD) (aD (.int 1)) (aCall fDraw 2 (aCons (aVar 1) (aCons (aD (.int 6)) aNil)))) aNil))) (agN 2))
  (aSeq (aAsg (aCall fWorld 3 (aCons (aVar 1) (aCons (aVar 2) (aCons (aCall fDraw 2 (aCons (aVar 1) (aCons (aD (.int 17)) aNil))) aNil)))) (agN 3))
  (aSeq (aAsg (aCall fLedger 2 (aCons (aVar 3) (aCons (aCB listKW (aCons (aOp ixW (aVar 3) (aD (.str "changes"))) aNil)) aNil))) (agN 4))
  (aSeq (aAsg (aCB reprW (aCons (aVar 4) aNil)) (agN 5))
  (aSeq (aAsg (aLc (aR1 (aCons (aD (.int 4)) aNil)) (agN 7) aYes (aCall fNames 3 (aCons (aVar 1) (aCons (aVar 3) (aCons (aVar 2) aNil)))) [7]) (agN 6))
  (aSeq (aFor (aIt (aOp (ra2 addD) (aVar 6) (aSl (aVar 6) aNoP (aPart (aD (.int 1)))))) (agN 8)
    (aSeq (aAsg (aCall fWo 2 (aCons (aVar 4) (aCons (aVar 8) aNil))) (agN 9))
  (aSeq (aIfS (aTest (aOp (ra2 (eqF true)) (aCB reprW (aCons (aVar 9) aNil)) (aCall fDue 2 (aCons (aVar 3) (aCons (aVar 8) aNil)))))
    (aRet (aD (.bool false)))
    aNext)
  (aIfS (aOr (aTest (aOp (ra2 (eqF true)) (aCB reprW (aCons (aCall fWo 2 (aCons (aVar 9) (aCons (aOp ixW (aVar 6) (aD (.int 0))) aNil))) aNil)) (aCall fDue 2 (aCons (aVar 3) (aCons (aOp (ra2 addD) (aVar 8) (aOp ixW (aVar 6) (aD (.int 0)))) aNil))))) (aTest (aOp (ra2 (eqF true)) (aCB reprW (aCons (aCall fWo 2 (aCons (aVar 9) (aCons (aTup aNil) aNil))) aNil)) (aCB reprW (aCons (aVar 9) aNil)))))
    (aRet (aD (.bool false)))
    aNext))))
  (aRet (aAndV (aOp (ra2 (eqF false)) (aCB reprW (aCons (aCall fWo 2 (aCons (aVar 4) (aCons (aTup aNil) aNil))) aNil)) (aVar 5)) (aOp (ra2 (eqF false)) (aCB reprW (aCons (aVar 4) aNil)) (aVar 5)))))))))))
end Lw

set_option maxHeartbeats 4000000
/-! L7A: the names that k07 asks about. -/
namespace Lw
open PySem PySem.Spec PyProof.Rows L2 Mw Aw
theorem r_2C {f : PyData → PyData → (PyData → Prop) → Prop} {a b : W} {x y : PyData} {σ : Sto} {Q : QK} (h1 : dat σ a = some x) (h2 : dat σ b = some y) (h : f x y fun z => Q (.d z) σ) : ra2 f a b σ Q := ⟨x, y, h1, h2, h⟩
theorem pures_nm (l : List Nm) : pures (nmW l) = some (l.map nmD) := by rw [show nmW l = (l.map nmD).map W.d by simp [nmW]]; exact pures_map _
theorem dat_nm {σ : Sto} {i : Nat} {l : List Nm} (h : σ[i]? = some (.lst (nmW l))) : dat σ (.ref i) = some (.list (l.map nmD)) := by
  simp only [dat, h, pures_nm]
  rfl
theorem cutL_map {α β : Type} (f : α → β) (l : List α) (lo hi : Option Int) : cutL (l.map f) lo hi = (cutL l lo hi).map f := by
  unfold cutL
  rw [List.length_map, List.map_take, List.map_drop]
theorem cutL_mem {α : Type} {l : List α} {lo hi : Option Int} {x : α} (h : x ∈ cutL l lo hi) : x ∈ l := List.mem_of_mem_drop (List.mem_of_mem_take h)
theorem cutL_len {α : Type} (l : List α) (lo hi : Option Int) : (cutL l lo hi).length ≤ l.length := by
  unfold cutL
  rw [List.length_take, List.length_drop]
  omega
theorem rep_map {α β : Type} (f : α → β) (l : List α) (n : Nat) : (List.replicate n (l.map f)).flatten = ((List.replicate n l).flatten).map f := by
  rw [List.map_flatten, List.map_replicate]
theorem rep_len {α : Type} (l : List α) (n : Nat) : (List.replicate n l).flatten.length = n * l.length := by
  induction n with
  | zero => simp
  | succ n ih => rw [List.replicate_succ, List.flatten_cons, List.length_append, ih, Nat.succ_mul]; omega
theorem rep_cut {fd : List Nm} {k n : Nat} {P : Nm → Prop} (h : fd.length ≤ k) (fw : ∀ m ∈ fd, P m) (kk : Int) : cutL (List.replicate n (fd.map nmD)).flatten none (some kk) = (cutL (List.replicate n fd).flatten none (some kk)).map nmD ∧ (cutL (List.replicate n fd).flatten none (some kk)).length ≤ n * k ∧ ∀ m ∈ cutL (List.replicate n fd).flatten none (some kk), P m := by
  refine ⟨by rw [rep_map, cutL_map], ?_, fun m hm => ?_⟩
  · have h1 := cutL_len (List.replicate n fd).flatten none (some kk)
    rw [rep_len] at h1
    exact Nat.le_trans h1 (Nat.mul_le_mul_left n h)
  · obtain ⟨l, hl, hm'⟩ := List.mem_flatten.mp (cutL_mem hm)
    rw [List.eq_of_mem_replicate hl] at hm'
    exact fw m hm'
def f7Names : AF := fun ws σ Q _ => ∃ F n cs zs c, ws = [.ref F, .ref n, .d (ssD zs)] ∧ σ[F]? = some c ∧ IsFeed c ∧ Off F n ∧ WdA σ n cs ∧ cs.length ≤ 50 ∧ (∀ m ∈ names cs, Wrd m.2) ∧ 0 < zs.length ∧ zs.length ≤ 6 ∧ (∀ z ∈ zs, Wrd z) ∧
  ∀ (nms : List Nm) (c' : Cell), nms.length ≤ 160 → (∀ m ∈ nms, Wrd m.2) → IsFeed c' → Q (.d (.tuple (nms.map nmD))) (σ.set F c')
instance : MoF f7Names := ⟨fun k ⟨F, n, cs, zs, c, h1, h2, h3, h4, h5, h6, h7, h8, h9, h10, q⟩ => ⟨F, n, cs, zs, c, h1, h2, h3, h4, h5, h6, h7, h8, h9, h10, fun a b c d e => k _ _ (q a b c d e)⟩⟩
theorem names7_ok : ∀ ws σ Q X, f7Names ws σ Q X → aFn 6 (p7Names fDraw) ws σ (fun w σ' => Told σ.length σ σ' w Q) X := by
  rintro ws σ Q X ⟨F, n, cs, zs, c, rfl, hc, hf, of, wd, c50, nmw, z0, z6, wrd, q⟩
  have hF : F < σ.length := (List.getElem?_eq_some_iff.mp hc).1
  generalize hQ : (fun w σ' => Told σ.length σ σ' w Q) = Q'
  have key : ∀ {nms : List Nm} {c' : Cell} {j : Sto}, nms.length ≤ 160 → (∀ m ∈ nms, Wrd m.2) → IsFeed c' → Q' (.d (.tuple (nms.map nmD))) (Sx σ F c' j) := fun h1 h2 h3 => by rw [← hQ]; exact told_x h3 (q _ _ h1 h2 h3)
  rw [show aFn 6 (p7Names fDraw) [.ref F, .ref n, .d (ssD zs)] σ Q' X = aFn 6 (p7Names fDraw) [.ref F, .ref n, .d (ssD zs)] (Sx σ F c []) Q' X by rw [← sx_start hc]]
  have wd1 : WdA (Sx σ F c []) n cs := wd.sx of
  and_intros
  refine ix_ch wd1 ?_
  and_intros
  refine r_srt wd1.a1 (keys_1 cs) ?_
  have n50 : (srt (names cs)).length ≤ 50 := by rw [srt_len, List.length_map]; exact c50
  have nmw' : ∀ m ∈ srt (names cs), Wrd m.2 := fun m hm => nmw m (mem_srt.mp hm)
  generalize srt (names cs) = L at n50 nmw' ⊢
  with_reducible refine r_agN ?_
  with_reducible refine r_seq ?_
  with_reducible refine r_asg ?_
  refine cutE (fun w s => w = .ref σ.length ∧ s = Sx σ F c [.lst (nmW [])]) (by and_intros; exact ⟨Nat.zero_le _, by rw [sx_len]; rfl, sx_app⟩) fun w s hw => ?_
  obtain ⟨rfl, rfl⟩ := hw
  and_intros
  refine r_draw hF hf (by decide) (by decide) fun r1 c1 r10 r11 hf1 => ?_
  and_intros
  refine r_rng (by omega) (by omega) ?_
  refine loop_run (fun i e s => ∃ c v5 fd, e = [some (.ref F), some (.ref n), some (.d (ssD zs)), some (.d (.list (L.map nmD))), some (.ref σ.length), v5] ∧ s = Sx σ F c [.lst (nmW fd)] ∧ IsFeed c ∧ fd.length = i ∧ ∀ m ∈ fd, Wrd m.2)
    ⟨c1, none, [], rfl, rfl, hf1, rfl, fun m hm => by cases hm⟩ (fun i w e s Rest hw h k => ?_) fun e s h => ?_
  · obtain ⟨c2, v5, fd, rfl, rfl, hf2, fl, fw⟩ := h
    obtain ⟨rfl, hi⟩ := rng_at hw
    refine ⟨True.intro, ?_⟩
    with_reducible refine r_agN ?_
    with_reducible refine r_ifS ?_
    refine cutT (fun b s => ∃ c', s = Sx σ F c' [.lst (nmW fd)] ∧ IsFeed c' ∧ (b = true → L ≠ [])) ?_ fun b s hb => ?_
    · and_intros
      refine r_pures rfl (Nat.zero_le _) ?_
      and_intros
      refine ⟨⟨shNms nmw', by decide +kernel⟩, ?_⟩
      show tstB _ (.d (.bool (!PyData.eqv (.list (L.map nmD)) (.list [])))) _
      rw [eqvNilN]
      and_intros
      refine r_iteN (fun hne => ?_) fun he => ?_
      · and_intros
        refine r_draw hF hf2 (by decide) (by decide) fun r c3 _ _ hf3 => ?_
        and_intros
        exact ⟨c3, rfl, hf3, fun _ => hne⟩
      · exact ⟨c2, rfl, hf2, fun h => by cases h⟩
    obtain ⟨c3, rfl, hf3, hb⟩ := hb
    refine r_iteB (fun hbt => ?_) fun _ => ?_
    · have hne := hb hbt
      have npos : 0 < L.length := List.length_pos_iff.mpr hne
      and_intros
      refine r_tyC (ws := nmW fd) sx_j0 ?_
      and_intros
      refine r_lenC (ws := nmW fd) sx_j0 ?_
      and_intros
      refine r_draw hF hf3 (by rw [List.length_map]; omega) (by rw [List.length_map]; omega) fun r c4 r0 r1 hf4 => ?_
      rw [List.length_map] at r1
      and_intros
      refine r_draw hF hf4 (by rw [List.length_map]; omega) (by rw [List.length_map]; omega) fun r' c5 r0' r1' hf5 => ?_
      rw [List.length_map] at r1'
      obtain ⟨j, rfl⟩ : ∃ j : Nat, r' = (j : Int) := ⟨r'.toNat, (Int.toNat_of_nonneg r0').symm⟩
      have hj : j < L.length := by omega
      refine r_ixL (x := nmD L[j]) (atI_nat (by rw [List.getElem?_map, List.getElem?_eq_getElem hj]; rfl)) ?_
      have hm := nmw' L[j] (List.getElem_mem _)
      generalize L[j] = m at hm ⊢
      and_intros
      refine r_insert (ws := nmW fd) sx_j0 (small (by rw [List.length_map]; omega)) r0 (by omega) ?_
      refine k _ _ ⟨c5, _, fd.take r.toNat ++ [m] ++ fd.drop r.toNat, rfl, ?_, hf5, ?_, fun x hx => ?_⟩
      · rw [sx_sj0]; simp [nmW, List.map_take, List.map_drop]
      · simp only [List.length_append, List.length_take, List.length_drop, List.length_singleton]; omega
      · simp only [List.mem_append, List.mem_singleton] at hx
        rcases hx with (h | h) | h
        · exact fw x (List.mem_of_mem_take h)
        · rw [h]; exact hm
        · exact fw x (List.mem_of_mem_drop h)
    · and_intros
      refine r_tyC (ws := nmW fd) sx_j0 ?_
      and_intros
      refine r_draw hF hf3 (by decide) (by decide) fun r c4 r0 r1 hf4 => ?_
      and_intros
      refine r_draw hF hf4 (by rw [List.length_map]; omega) (by rw [List.length_map]; omega) fun r' c5 r0' r1' hf5 => ?_
      rw [List.length_map] at r1'
      obtain ⟨j, rfl⟩ : ∃ j : Nat, r' = (j : Int) := ⟨r'.toNat, (Int.toNat_of_nonneg r0').symm⟩
      have hj : j < zs.length := by omega
      refine r_ixL (x := .str zs[j]) (atI_nat (by rw [List.getElem?_map, List.getElem?_eq_getElem hj]; rfl)) ?_
      have hz := wrd zs[j] (List.getElem_mem _)
      generalize zs[j] = z at hz ⊢
      and_intros
      refine r_pures rfl (by show 2 ≤ sizeLine; decide) ?_
      and_intros
      refine r_append (ws := nmW fd) sx_j0 (small (by rw [List.length_map]; omega)) ?_
      refine k _ _ ⟨c5, _, fd ++ [(1 + r, z)], rfl, ?_, hf5, by simp [fl], fun x hx => ?_⟩
      · rw [sx_sj0]; simp [nmW]; rfl
      · rcases List.mem_append.mp hx with h | h
        · exact fw x h
        · rw [List.mem_singleton.mp h]; exact hz
  obtain ⟨c2, v5, fd, rfl, rfl, hf2, fl, fw⟩ := h
  rw [rng_len] at fl
  have fl4 : fd.length ≤ 4 := by omega
  refine ⟨True.intro, ?_⟩
  with_reducible refine r_seq ?_
  with_reducible refine r_ifS ?_
  refine cutT (fun b s => ∃ c', s = Sx σ F c' [.lst (nmW fd)] ∧ IsFeed c') ?_ fun b s hb => ?_
  · and_intros
    refine r_pures rfl (Nat.zero_le _) ?_
    refine r_2C (dat_nm sx_j0) rfl ⟨⟨shNms fw, by decide +kernel⟩, ?_⟩
    show tstB _ (.d (.bool (!PyData.eqv (.list (fd.map nmD)) (.list [])))) _
    rw [eqvNilN]
    and_intros
    refine r_iteN (fun hne => ?_) fun he => ?_
    · and_intros
      refine r_draw hF hf2 (by decide) (by decide) fun r c3 _ _ hf3 => ?_
      and_intros
      exact ⟨c3, rfl, hf3⟩
    · exact ⟨c2, rfl, hf2⟩
  obtain ⟨c3, rfl, hf3⟩ := hb
  refine r_iteB (fun hbt => ?_) fun _ => ?_
  · and_intros
    refine r_rep (ws := nmW fd) sx_j0 (pures_nm fd) (by decide) (by decide) (Nat.le_of_lt (small (by
      rw [List.length_map]
      have e40 : (40 : Int).toNat = 40 := rfl
      rw [e40]
      omega))) ?_
    and_intros
    refine r_lenC (ws := nmW fd) sx_j0 ?_
    and_intros
    refine r_pures rfl (by show 2 ≤ sizeLine; decide) ?_
    and_intros
    refine r_draw hF hf3 (by decide) (by decide) fun r c4 r0 r1 hf4 => ?_
    obtain ⟨N, hN⟩ : ∃ N : Nat, N = (40 : Int).toNat := ⟨_, rfl⟩
    rw [← hN]
    have hN' : N = 40 := hN
    have fin := fun kk : Int => rep_cut (n := N) (P := fun m => Wrd m.2) fl4 fw kk
    have n160 : N * 4 = 160 := by rw [hN']
    clear hN hN'
    have : r = 0 ∨ r = 1 := by omega
    rcases this with rfl | rfl
    · refine r_ixL (x := .int (((nmW fd).length : Int) + 1)) at0 ?_
      and_intros
      rw [(fin _).1]
      exact key (by rw [← n160]; exact (fin _).2.1) (fin _).2.2 hf4
    · refine r_ixL (x := .int 40) rfl ?_
      and_intros
      rw [(fin _).1]
      exact key (by rw [← n160]; exact (fin _).2.1) (fin _).2.2 hf4
  · and_intros
    refine ⟨_, nmW fd, fd.map nmD, rfl, by simp only [itemsOf, sx_j0]; rfl, pures_nm fd, ?_⟩
    exact key (by omega) fw hf3
end Lw

set_option maxHeartbeats 4000000
/-! L7C: what is left of a ledger where some are left out: pure facts. -/
namespace Lw
open PySem PySem.Spec PyProof.Rows L2 Mw Aw
def dueN (cs : List Ch) (nms : List Nm) : List Nm := ((names cs).filter fun n => !decide (n ∈ nms)).filter fun n => decide (((knOf cs n).filter fun k => decide (k ∈ nms)) = [])

def bad (nms : List Nm) (c : Ch) : Bool := decide (c.nm ∈ nms) || c.kn.any fun k => decide (k ∈ nms)
theorem bad_iff {nms : List Nm} {c : Ch} : bad nms c = true ↔ c.nm ∈ nms ∨ ∃ k ∈ c.kn, k ∈ nms := by
  unfold bad
  rw [Bool.or_eq_true, List.any_eq_true]
  constructor
  · rintro (h | ⟨k, h1, h2⟩)
    · exact .inl (of_decide_eq_true h)
    · exact .inr ⟨k, h1, of_decide_eq_true h2⟩
  · rintro (h | ⟨k, h1, h2⟩)
    · exact .inl (decide_eq_true h)
    · exact .inr ⟨k, h1, decide_eq_true h2⟩
theorem hit_iff {g : List Nm} {c : Ch} : hit g c = true ↔ c.nm ∈ g ∨ ∃ b ∈ c.base, b ∈ g := by
  unfold hit
  rw [Bool.or_eq_true, List.any_eq_true]
  constructor
  · rintro (h | ⟨k, h1, h2⟩)
    · exact .inl (of_decide_eq_true h)
    · obtain ⟨b, h3, h4⟩ := List.mem_map.mp h1
      have h5 : k = true := h2
      rw [h5] at h4
      exact .inr ⟨b, h3, of_decide_eq_true h4⟩
  · rintro (h | ⟨b, h1, h2⟩)
    · exact .inl (decide_eq_true h)
    · exact .inr ⟨true, List.mem_map.mpr ⟨b, h1, decide_eq_true h2⟩, rfl⟩
/-- a part of a world in which what is known stands ahead -/
structure Led (cs M : List Ch) : Prop where
  mem : ∀ c ∈ M, c ∈ cs
  nd : (names M).Nodup
  bef : ∀ (A R : List Ch) (c : Ch), M = A ++ c :: R → ∀ b ∈ c.base, b ∈ names A
theorem wout_eq {ws : List Str} {cs M : List Ch} (w : Wr ws cs) (l : Led cs M) (nms : List Nm) : wout (gather nms) M = M.filter fun c => !bad nms c := by
  have main : ∀ (R A : List Ch) (g : List Nm), M = A ++ R → (∀ c ∈ A, (c.nm ∈ g ↔ bad nms c = true)) → (∀ n, n ∉ names A → (n ∈ g ↔ n ∈ nms)) → wout g R = R.filter fun c => !bad nms c := by
    intro R
    induction R with
    | nil => intro A g _ _ _; rfl
    | cons c r ih =>
      intro A g hM h1 h2
      have hc : c ∈ cs := l.mem c (by rw [hM]; simp)
      have nd := l.nd
      have enm : names M = names A ++ c.nm :: names r := by rw [hM]; simp [names]
      rw [enm] at nd
      have ndA := (List.nodup_append.mp nd).2.2
      have nin : c.nm ∉ names A := fun z => ndA c.nm z c.nm (by simp) rfl
      have hb := l.bef A r c hM
      have heq : hit g c = bad nms c := by
        rw [Bool.eq_iff_iff, hit_iff, bad_iff]
        have inA : ∀ b ∈ c.base, ∃ cb ∈ A, cb.nm = b ∧ knOf cs b = cb.kn := fun b hbb => by
          obtain ⟨cb, hcb, e⟩ := List.mem_map.mp (hb b hbb)
          have hcb' : cb ∈ cs := l.mem cb (by rw [hM]; exact List.mem_append_left _ hcb)
          exact ⟨cb, hcb, e, by rw [← e]; exact knOf_own w hcb'⟩
        constructor
        · rintro (h | ⟨b, hbb, hbg⟩)
          · exact .inl ((h2 c.nm nin).mp h)
          · obtain ⟨cb, hcb, e, ek⟩ := inA b hbb
            rw [← e] at hbg
            rcases bad_iff.mp ((h1 cb hcb).mp hbg) with h | ⟨k, hk, hkn⟩
            · exact .inr ⟨b, base_sub w c hc b hbb, by rw [← e]; exact h⟩
            · exact .inr ⟨k, kn_trans w c hc b (base_sub w c hc b hbb) k (by rw [ek]; exact hk), hkn⟩
        · rintro (h | ⟨k, hk, hkn⟩)
          · exact .inl ((h2 c.nm nin).mpr h)
          · obtain ⟨b, hbb, h⟩ := base_gen w c hc k hk
            obtain ⟨cb, hcb, e, ek⟩ := inA b hbb
            refine .inr ⟨b, hbb, ?_⟩
            rw [← e]
            refine (h1 cb hcb).mpr (bad_iff.mpr ?_)
            rcases h with h | h
            · exact .inl (by rw [e, ← h]; exact hkn)
            · exact .inr ⟨k, by rw [← ek]; exact h, hkn⟩
      have hM' : M = (A ++ [c]) ++ r := by rw [hM, List.append_assoc]; rfl
      have nmA : names (A ++ [c]) = names A ++ [c.nm] := by simp [names]
      cases hbad : bad nms c with
      | true =>
        rw [wout_hit (by rw [heq]; exact hbad), ih (A ++ [c]) (ins g c.nm) hM' (fun d hd => ?_) (fun n hn => ?_)]
        · rw [List.filter_cons, hbad]
          rfl
        · rw [mem_ins]
          rcases List.mem_append.mp hd with h | h
          · have hne : ¬ d.nm = c.nm := fun z => nin (by rw [← z]; exact List.mem_map.mpr ⟨d, h, rfl⟩)
            rw [← h1 d h]
            exact ⟨fun z => z.resolve_right hne, .inl⟩
          · rw [List.mem_singleton.mp h]
            exact ⟨fun _ => hbad, fun _ => .inr rfl⟩
        · rw [nmA, List.mem_append, List.mem_singleton, not_or] at hn
          rw [mem_ins, ← h2 n hn.1]
          exact ⟨fun z => z.resolve_right hn.2, .inl⟩
      | false =>
        rw [wout_no (by rw [heq]; exact hbad), ih (A ++ [c]) g hM' (fun d hd => ?_) (fun n hn => ?_)]
        · rw [List.filter_cons, hbad]
          rfl
        · rcases List.mem_append.mp hd with h | h
          · exact h1 d h
          · rw [List.mem_singleton.mp h, h2 c.nm nin, hbad]
            refine ⟨fun z => ?_, fun z => absurd z (by decide)⟩
            have := bad_iff.mpr (.inl z : c.nm ∈ nms ∨ ∃ k ∈ c.kn, k ∈ nms)
            rw [hbad] at this
            exact this
        · rw [nmA, List.mem_append, List.mem_singleton, not_or] at hn
          exact h2 n hn.1
  exact main M [] (gather nms) rfl (fun c hc => by cases hc) fun n _ => mem_gather
/-! ### ledgers of a world are such -/
theorem led_names {cs : List Ch} (nd : (names cs).Nodup) (p : Nm → Bool) : ∀ l : List Nm, (∀ n ∈ l, n ∈ names cs) → names ((l.filter p).filterMap (findC cs)) = l.filter p
  | [], _ => rfl
  | n :: l, h => by
    obtain ⟨c, hc, _, e⟩ := findC_mem (h n (by simp))
    have ih := led_names nd p l fun m hm => h m (List.mem_cons_of_mem _ hm)
    rw [List.filter_cons]
    split
    · rw [List.filterMap_cons, hc]
      show c.nm :: names _ = _
      rw [ih, e]
    · exact ih
theorem leN_cnt {a b : Nm} (h : leN a b = true) : a.1 ≤ b.1 := by
  rw [leN_eq] at h
  by_cases e : a.1 = b.1
  · omega
  · rw [if_neg e] at h
    have := of_decide_eq_true h
    omega
theorem led_of {ws : List Str} {cs M : List Ch} (w : Wr ws cs) (mem : ∀ c ∈ M, c ∈ cs) (nd : (names M).Nodup) (so : (names M).Pairwise fun a b => leN a b = true) (cl : ∀ c ∈ M, ∀ b ∈ c.base, b ∈ names M) : Led cs M := by
  refine ⟨mem, nd, fun A R c hM b hb => ?_⟩
  have hc : c ∈ M := by rw [hM]; simp
  have lt := cnt_lt w c (mem c hc) b (base_sub w c (mem c hc) b hb)
  have en : names M = names A ++ c.nm :: names R := by rw [hM]; simp [names]
  have hin := cl c hc b hb
  rw [en] at hin so
  rcases List.mem_append.mp hin with h | h
  · exact h
  · rcases List.mem_cons.mp h with h | h
    · rw [h] at lt; omega
    · have h2 := (List.pairwise_append.mp so).2.1
      have h3 := leN_cnt ((List.pairwise_cons.mp h2).1 b h)
      omega
theorem all_names {ws : List Str} {cs : List Ch} (w : Wr ws cs) : names (ledP cs (names cs)) = srt (names cs) := by
  unfold ledP
  rw [led_names (names_nodup w) _ _ fun n hn => mem_srt.mp hn]
  refine List.filter_eq_self.mpr fun n hn => decide_eq_true (mem_srt.mp hn)
theorem led_all {ws : List Str} {cs : List Ch} (w : Wr ws cs) : Led cs (ledP cs (names cs)) := by
  have mem : ∀ c ∈ ledP cs (names cs), c ∈ cs := fun c hc => by
    unfold ledP at hc
    obtain ⟨n, _, hn⟩ := List.mem_filterMap.mp hc
    exact List.mem_of_find?_eq_some hn
  refine led_of w mem ?_ ?_ fun c hc b hb => ?_
  · rw [all_names w]; exact (srt_perm _).nodup_iff.mpr (names_nodup w)
  · rw [all_names w]; exact srt_sorted _
  · rw [all_names w, mem_srt]
    exact kn_sub w c (mem c hc) b (base_sub w c (mem c hc) b hb)
theorem bad_up {ws : List Str} {cs : List Ch} (w : Wr ws cs) {nms : List Nm} {c cb : Ch} (hc : c ∈ cs) (hcb : cb ∈ cs) (hb : cb.nm ∈ c.kn) (h : bad nms cb = true) : bad nms c = true := by
  refine bad_iff.mpr (.inr ?_)
  rcases bad_iff.mp h with h | ⟨k, hk, hkn⟩
  · exact ⟨_, hb, h⟩
  · exact ⟨k, kn_trans w c hc _ hb k (by rw [knOf_own w hcb]; exact hk), hkn⟩
theorem led_filter {ws : List Str} {cs M : List Ch} (w : Wr ws cs) (l : Led cs M) (so : (names M).Pairwise fun a b => leN a b = true) (cl : ∀ c ∈ M, ∀ b ∈ c.base, b ∈ names M) (nms : List Nm) :
    Led cs (M.filter fun c => !bad nms c) ∧ (names (M.filter fun c => !bad nms c)).Pairwise (fun a b => leN a b = true) ∧ ∀ c ∈ M.filter (fun c => !bad nms c), ∀ b ∈ c.base, b ∈ names (M.filter fun c => !bad nms c) := by
  have sub : (names (M.filter fun c => !bad nms c)).Sublist (names M) := (List.filter_sublist).map _
  have so' := so.sublist sub
  have cl' : ∀ c ∈ M.filter (fun c => !bad nms c), ∀ b ∈ c.base, b ∈ names (M.filter fun c => !bad nms c) := fun c hc b hb => by
    obtain ⟨h1, h2⟩ := List.mem_filter.mp hc
    obtain ⟨cb, hcb, e⟩ := List.mem_map.mp (cl c h1 b hb)
    refine List.mem_map.mpr ⟨cb, List.mem_filter.mpr ⟨hcb, ?_⟩, e⟩
    cases hbad : bad nms cb with
    | false => rfl
    | true =>
      have := bad_up w (l.mem c h1) (l.mem cb hcb) (by rw [show cb.nm = b from e]; exact base_sub w c (l.mem c h1) b hb) hbad
      rw [this] at h2
      cases h2
  exact ⟨led_of w (fun c hc => l.mem c (List.mem_filter.mp hc).1) (l.nd.sublist sub) so' cl', so', cl'⟩
theorem bad_nil (c : Ch) : bad [] c = false := by
  cases h : bad [] c with
  | false => rfl
  | true =>
    rcases bad_iff.mp h with h | ⟨k, _, h⟩ <;> cases h
theorem bad_app (n m : List Nm) (c : Ch) : bad (n ++ m) c = (bad n c || bad m c) := by
  rw [Bool.eq_iff_iff, Bool.or_eq_true, bad_iff, bad_iff, bad_iff]
  constructor
  · rintro (h | ⟨k, hk, h⟩)
    · exact (List.mem_append.mp h).imp .inl .inl
    · exact (List.mem_append.mp h).imp (fun z => .inr ⟨k, hk, z⟩) fun z => .inr ⟨k, hk, z⟩
  · rintro ((h | ⟨k, hk, h⟩) | (h | ⟨k, hk, h⟩))
    · exact .inl (List.mem_append_left _ h)
    · exact .inr ⟨k, hk, List.mem_append_left _ h⟩
    · exact .inl (List.mem_append_right _ h)
    · exact .inr ⟨k, hk, List.mem_append_right _ h⟩
theorem mem_dueN {ws : List Str} {cs : List Ch} (w : Wr ws cs) {nms : List Nm} {c : Ch} (hc : c ∈ cs) : c.nm ∈ dueN cs nms ↔ bad nms c = false := by
  unfold dueN
  rw [List.mem_filter, List.mem_filter, knOf_own w hc]
  constructor
  · rintro ⟨⟨_, h1⟩, h2⟩
    cases hb : bad nms c with
    | false => rfl
    | true =>
      rcases bad_iff.mp hb with h | ⟨k, hk, h⟩
      · rw [decide_eq_true h] at h1; cases h1
      · have := of_decide_eq_true h2
        have hm : k ∈ c.kn.filter (fun k => decide (k ∈ nms)) := List.mem_filter.mpr ⟨hk, decide_eq_true h⟩
        rw [this] at hm
        cases hm
  · intro hb
    have nb : ¬ (c.nm ∈ nms ∨ ∃ k ∈ c.kn, k ∈ nms) := fun z => by rw [bad_iff.mpr z] at hb; cases hb
    refine ⟨⟨List.mem_map.mpr ⟨c, hc, rfl⟩, by rw [decide_eq_false fun z => nb (.inl z)]; rfl⟩, decide_eq_true ?_⟩
    exact List.filter_eq_nil_iff.mpr fun k hk z => nb (.inr ⟨k, hk, of_decide_eq_true z⟩)
/-- what is due is what is left -/
theorem due_eq {ws : List Str} {cs : List Ch} (w : Wr ws cs) (nms : List Nm) : ledP cs (dueN cs nms) = (ledP cs (names cs)).filter fun c => !bad nms c := by
  unfold ledP
  have gen : ∀ l : List Nm, (∀ n ∈ l, n ∈ names cs) → (l.filter fun n => decide (n ∈ dueN cs nms)).filterMap (findC cs) = ((l.filter fun n => decide (n ∈ names cs)).filterMap (findC cs)).filter fun c => !bad nms c := by
    intro l
    induction l with
    | nil => intro _; rfl
    | cons n l ih =>
      intro h
      obtain ⟨c, hf, hc, e⟩ := findC_mem (h n (by simp))
      have ih' := ih fun m hm => h m (List.mem_cons_of_mem _ hm)
      have hd := mem_dueN w (nms := nms) hc
      rw [e] at hd
      rw [List.filter_cons, List.filter_cons, decide_eq_true (h n (by simp)), if_pos rfl, List.filterMap_cons, hf]
      show _ = List.filter _ (c :: _)
      rw [List.filter_cons]
      cases hb : bad nms c with
      | false =>
        rw [decide_eq_true (hd.mpr hb), if_pos rfl, List.filterMap_cons, hf]
        show c :: _ = if (!false) = true then _ else _
        rw [ih']
        rfl
      | true =>
        rw [decide_eq_false (fun z => by rw [hd.mp z] at hb; cases hb), if_neg (by decide), ih']
        rfl
  exact gen _ fun n hn => mem_srt.mp hn
theorem ledP_mem {cs : List Ch} {nms : List Nm} {c : Ch} (hc : c ∈ ledP cs nms) : c ∈ cs := by
  unfold ledP at hc
  obtain ⟨n, _, hn⟩ := List.mem_filterMap.mp hc
  exact List.mem_of_find?_eq_some hn
theorem ledP_len (cs : List Ch) (nms : List Nm) : (ledP cs nms).length ≤ cs.length := by
  unfold ledP
  have h1 := List.length_filterMap_le (findC cs) ((srt (names cs)).filter fun n => decide (n ∈ nms))
  have h2 := List.length_filter_le (fun n => decide (n ∈ nms)) (srt (names cs))
  rw [srt_len, List.length_map] at h2
  omega
theorem shw_led {L : List Ch} (h : ∀ c ∈ L, ChOk c) (hl : L.length ≤ 17) : Shw (ledD L) := by
  obtain ⟨a, b, c⟩ := fine_chs h
  have hf : fine (ledD L) = true := by simp only [fine]; exact a
  obtain ⟨s1, s2, s3⟩ := fine_show hf
  refine ⟨s1, s2, by simp only [PyData.depth]; omega, Nat.le_trans s3 ?_⟩
  simp only [wt]
  have : 41002 * L.length ≤ 41002 * 17 := Nat.mul_le_mul_left _ hl
  omega
theorem shw_part {cs L : List Ch} {zs : List Str} (w : Wr zs cs) (ww : ∀ z ∈ zs, Wrd z) (h : cs.length ≤ 17) (hm : ∀ c ∈ L, c ∈ cs) (hl : L.length ≤ 17) : Shw (ledD L) := shw_led (fun c hc => ch_ok w ww h c (hm c hc)) hl
end Lw

set_option maxHeartbeats 4000000
/-! L5A: k05: the program's tops and branches, the law's own parts. -/
namespace Lw
open PySem PySem.Spec PyProof.Rows L2 Mw Aw
theorem mapW {α : Type} (f : α → PyData) (l : List α) : (l.map f).map W.d = l.map fun x => W.d (f x) := by rw [List.map_map]; rfl
theorem fm_some {α β : Type} (f : α → β) (l : List α) : l.filterMap (fun x => some (f x)) = l.map f := by induction l <;> simp_all
theorem fm_ite {α β : Type} (f : α → β) (p : α → Bool) (l : List α) : l.filterMap (fun x => if p x = true then some (f x) else none) = (l.filter p).map f := by
  induction l with
  | nil => rfl
  | cons a l ih => by_cases h : p a = true <;> simp [List.filterMap_cons, List.filter_cons, h, ih]
def fNof : AF := fun ws σ Q _ => ∃ M, ws = [.d (ledD M)] ∧ M.length ≤ 1000 ∧ Q (.d (.tuple ((names M).map nmD))) σ
instance : MoF fNof := ⟨fun k ⟨M, h1, h2, q⟩ => ⟨M, h1, h2, k _ _ q⟩⟩
theorem nof_ok : ∀ ws σ Q X, fNof ws σ Q X → aFn 2 p5Nof ws σ Q X := by
  rintro ws σ Q X ⟨M, rfl, m1, q⟩
  and_intros
  refine r_tupG ?_
  and_intros
  rw [mapW]
  refine tg_fm M (fun c => .d (Mw.chD c)) (fun c => some (nmD c.nm)) True.intro (by omega) (fun c hc Y N hy hn => ?_) ?_
  · and_intros
    refine r_ixT (x := nmD c.nm) at0 ?_
    exact ⟨_, rfl, rfl, hy _ rfl⟩
  · rw [fm_some, show (M.map fun c => nmD c.nm) = (names M).map nmD by simp [names]]
    exact q
/-- the names that no base has -/
def topsP (M : List Ch) : List Nm := (names M).filter fun n => !decide (n ∈ M.flatMap (·.base))
def fTops : AF := fun ws σ Q _ => ∃ M, ws = [.d (ledD M)] ∧ M.length ≤ 100 ∧ (∀ c ∈ M, c.base.length ≤ 100) ∧ Q (.d (.tuple ((topsP M).map nmD))) σ
instance : MoF fTops := ⟨fun k ⟨M, h1, h2, h3, q⟩ => ⟨M, h1, h2, h3, k _ _ q⟩⟩
theorem flat_len {M : List Ch} {n : Nat} (h : ∀ c ∈ M, c.base.length ≤ n) : (M.flatMap (·.base)).length ≤ M.length * n := by
  induction M with
  | nil => simp
  | cons c M ih =>
    rw [List.flatMap_cons, List.length_append, List.length_cons, Nat.succ_mul]
    have := ih fun d hd => h d (List.mem_cons_of_mem _ hd)
    have := h c (by simp)
    omega
theorem fold_len : ∀ (l g : List Nm), (l.foldl ins g).length ≤ g.length + l.length
  | [], g => Nat.le_refl _
  | a :: l, g => by
    have h1 := fold_len l (ins g a)
    have h2 := ins_len g a
    rw [List.foldl_cons, List.length_cons]
    omega
theorem tops_ok : ∀ ws σ Q X, fTops ws σ Q X → aFn 4 (p5Tops fNof) ws σ (fun w σ' => Told σ.length σ σ' w Q) X := by
  rintro ws σ Q X ⟨M, rfl, m1, b1, q⟩
  generalize hQ : (fun w σ' => Told σ.length σ σ' w Q) = Q'
  have key : ∀ {j : Sto}, Q' (.d (.tuple ((topsP M).map nmD))) (σ ++ j) := fun {j} => by rw [← hQ]; exact told_d q
  clear hQ q
  and_intros
  with_reducible refine r_dc2 ?_
  and_intros
  rw [mapW]
  have bl := flat_len b1
  have bl' : (M.flatMap (·.base)).length ≤ 10000 := by
    have := Nat.mul_le_mul_right 100 m1
    omega
  refine dc2_run (fun i s => s = σ ++ [.dct true (kvY (((M.take i).flatMap (·.base)).foldl ins []))]) rfl (fun i w s Rest hw h k => ?_) fun s h => ?_
  · subst h
    rw [List.getElem?_map] at hw
    obtain ⟨c, hc, rfl⟩ := Option.map_eq_some_iff.mp hw
    have hcm := b1 c (List.mem_of_getElem? hc)
    refine ⟨True.intro, ?_⟩
    and_intros
    refine r_ixT (x := .tuple (c.base.map nmD)) rfl ?_
    and_intros
    rw [mapW]
    have hlt : ((M.take i).flatMap (·.base)).length ≤ 10000 := by
      have := flat_len (M := M.take i) (n := 100) fun d hd => b1 d (List.mem_of_mem_take hd)
      have := Nat.mul_le_mul_right 100 (show (M.take i).length ≤ 100 by rw [List.length_take]; omega)
      omega
    refine dc_names c.base (fun _ => True.intro) rfl _ (by
      have h := fold_len ((M.take i).flatMap (·.base)) []
      rw [List.length_nil, Nat.zero_add] at h
      omega) (fun x hx j => ?_) (k _ ?_)
    · and_intros
      refine ⟨rfl, ?_⟩
      and_intros
      refine ⟨rfl, ?_⟩
      and_intros
      exact ⟨rfl, rfl⟩
    · rw [take_snoc hc, List.flatMap_append, List.foldl_append]
      simp
  · subst h
    rw [List.length_map, List.take_length]
    refine ⟨True.intro, ?_⟩
    and_intros
    refine r_tupG ?_
    and_intros
    refine ⟨M, rfl, by omega, ?_⟩
    and_intros
    rw [mapW]
    have hp : prsOf (σ ++ [.dct true (kvY ((M.flatMap (·.base)).foldl ins []))]) (.ref σ.length) = some (kvY ((M.flatMap (·.base)).foldl ins [])) := by simp only [prsOf, px_j0]; rfl
    refine tg_fm (names M) (fun n => .d (nmD n)) (fun n => if (!decide (n ∈ M.flatMap (·.base))) = true then some (nmD n) else none) True.intro (by rw [List.length_map]; omega) (fun n hn Y N hy hno => ?_) ?_
    · and_intros
      refine r_inD hp (kc_Y _ _) ?_
      rw [get_Y]
      have hm : n ∈ (M.flatMap (·.base)).foldl ins [] ↔ n ∈ M.flatMap (·.base) := by rw [mem_fold]; simp
      by_cases hk : n ∈ M.flatMap (·.base)
      · rw [if_pos (hm.mpr hk)]
        refine r_tbool ?_
        refine r_iteF ?_
        exact ⟨rfl, hno (by simp [hk])⟩
      · rw [if_neg fun z => hk (hm.mp z)]
        refine r_tbool ?_
        refine r_iteT ?_
        and_intros
        exact ⟨_, rfl, rfl, hy _ (by simp [hk])⟩
    · rw [fm_ite]
      exact key
def fBrn : AF := fun ws σ Q _ => ∃ M z, ws = [.d (ledD M), .d (.str z)] ∧ M.length ≤ 1000 ∧ Q (.d (.tuple (((names M).filter fun n => decide (n.2 = z)).map nmD))) σ
instance : MoF fBrn := ⟨fun k ⟨M, z, h1, h2, q⟩ => ⟨M, z, h1, h2, k _ _ q⟩⟩
theorem brn_ok : ∀ ws σ Q X, fBrn ws σ Q X → aFn 3 (p5Brn fNof) ws σ Q X := by
  rintro ws σ Q X ⟨M, z, rfl, m1, q⟩
  and_intros
  refine r_tupG ?_
  and_intros
  refine ⟨M, rfl, m1, ?_⟩
  and_intros
  rw [mapW]
  refine tg_fm (names M) (fun n => .d (nmD n)) (fun n => if (decide (n.2 = z)) = true then some (nmD n) else none) True.intro (by rw [List.length_map]; omega) (fun n hn Y N hy hno => ?_) ?_
  · and_intros
    refine r_ixT (x := .str n.2) rfl ?_
    and_intros
    refine r_ite (fun hk => ?_) fun hk => ?_
    · and_intros
      exact ⟨_, rfl, rfl, hy _ (by simp [hk])⟩
    · exact ⟨rfl, hno (by simp [hk])⟩
  · rw [fm_ite]
    exact q
/-! ### parts -/
def partP (cs : List Ch) (nms : List Nm) : List Nm := (srt (names cs)).filter fun m => decide (m ∈ nms ++ nms.flatMap (knOf cs))
def fPart : AF := fun ws σ Q _ => ∃ n cs nms zs, ws = [.ref n, .d (.list (nms.map nmD))] ∧ WdA σ n cs ∧ cs.length ≤ 16 ∧ Wr zs cs ∧ (∀ m ∈ names cs, Wrd m.2) ∧ nms.length ≤ 16 ∧ (∀ m ∈ nms, m ∈ names cs) ∧ Q (.d (.list ((partP cs nms).map nmD))) σ
instance : MoF fPart := ⟨fun k ⟨n, cs, nms, zs, h1, h2, h3, h4, h5, h6, h7, q⟩ => ⟨n, cs, nms, zs, h1, h2, h3, h4, h5, h6, h7, k _ _ q⟩⟩
theorem kn_flat_len {cs : List Ch} {zs : List Str} (w : Wr zs cs) (h : cs.length ≤ 16) : ∀ {l : List Nm}, (∀ m ∈ l, m ∈ names cs) → (l.flatMap (knOf cs)).length ≤ 16 * l.length
  | [], _ => by simp
  | m :: l, hm => by
    obtain ⟨c, hf, hc, _⟩ := findC_mem (hm m (by simp))
    have h1 := kn_flat_len w h (l := l) fun x hx => hm x (List.mem_cons_of_mem _ hx)
    have h2 : (knOf cs m).length ≤ 16 := by rw [knOf_eq hf]; exact kn_len w h c hc
    rw [List.flatMap_cons, List.length_append, List.length_cons]
    omega
theorem kn_names {cs : List Ch} {zs : List Str} (w : Wr zs cs) {m k : Nm} (hm : m ∈ names cs) (hk : k ∈ knOf cs m) : k ∈ names cs := by
  obtain ⟨c, hf, hc, _⟩ := findC_mem hm
  rw [knOf_eq hf] at hk
  exact kn_sub w c hc k hk
/-- adding up what is known -/
theorem part_ok : ∀ ws σ Q X, fPart ws σ Q X → aFn 4 p5Part ws σ Q X := by
  rintro ws σ Q X ⟨n, cs, nms, zs, rfl, wd, c16, wr, cw, n16, nin, q⟩
  and_intros
  rw [mapW]
  refine loop_run (fun i e s => ∃ v3, e = [some (.ref n), some (.d (.list (nms.map nmD))), some (.d (.list ((nms ++ (nms.take i).flatMap (knOf cs)).map nmD))), v3] ∧ s = σ) ⟨none, by simp [aStart], rfl⟩ (fun i w e s Rest hw h k => ?_) fun e s h => ?_
  · obtain ⟨v3, rfl, rfl⟩ := h
    rw [List.getElem?_map] at hw
    obtain ⟨m, hm, rfl⟩ := Option.map_eq_some_iff.mp hw
    obtain ⟨c, hf, hc, _⟩ := findC_mem (nin m (List.mem_of_getElem? hm))
    refine ⟨True.intro, ?_⟩
    and_intros
    refine ix_kn wd ?_
    and_intros
    refine ix_knN wd hf ?_
    and_intros
    have l1 := kn_flat_len wr c16 (l := nms.take i) fun x hx => nin x (List.mem_of_mem_take hx)
    have l2 := kn_len wr c16 c hc
    refine r_addL (Nat.le_of_lt (small' (by
      rw [List.length_map, List.length_map, List.length_append]
      rw [List.length_take] at l1
      omega))) ?_
    refine k _ _ ⟨some (.d (nmD m)), ?_, rfl⟩
    rw [take_snoc hm, List.flatMap_append, ← List.map_append, List.append_assoc]
    simp [knOf_eq hf]
  · obtain ⟨v3, rfl, rfl⟩ := h
    rw [List.length_map, List.take_length]
    refine ⟨True.intro, ?_⟩
    and_intros
    refine ix_ch wd ?_
    and_intros
    refine r_srt wd.a1 (keys_1 cs) ?_
    and_intros
    rw [mapW]
    have all : ∀ m ∈ nms ++ nms.flatMap (knOf cs), m ∈ names cs := fun m hm => by
      rcases List.mem_append.mp hm with h | h
      · exact nin m h
      · obtain ⟨x, hx, hk⟩ := List.mem_flatMap.mp h
        exact kn_names wr (nin x hx) hk
    refine lc_fm (srt (names cs)) (fun m => .d (nmD m)) (fun m => if (decide (m ∈ nms ++ nms.flatMap (knOf cs))) = true then some (nmD m) else none) (fun _ => True.intro) (by rw [srt_len, List.length_map]; omega) (fun m hm j Y N hy hno => ?_) ?_
    · and_intros
      refine r_inL (shNm (cw m (mem_srt.mp hm))) (shNmsT fun x hx => cw x (all x hx)) ?_
      refine r_tbool ?_
      show if _ = true then _ else _
      rw [any_nm]
      refine r_ite (fun hk => ?_) fun hk => ?_
      · and_intros
        exact ⟨_, rfl, rfl, hy _ (by rw [decide_eq_true hk]; rfl)⟩
      · exact ⟨rfl, hno (by rw [decide_eq_false hk]; rfl)⟩
    · rw [fm_ite]
      exact q
/-- a row of names with all that they know -/
structure Cls (cs : List Ch) (nms : List Nm) : Prop where
  srt : ∃ p, nms = (srt (names cs)).filter p
  clo : ∀ m ∈ nms, ∀ k ∈ knOf cs m, k ∈ nms
theorem Cls.sub {cs : List Ch} {nms : List Nm} (h : Cls cs nms) : ∀ m ∈ nms, m ∈ names cs := fun m hm => by
  obtain ⟨p, rfl⟩ := h.srt
  exact mem_srt.mp (List.mem_filter.mp hm).1
theorem cls_nil (cs : List Ch) : Cls cs [] := ⟨⟨fun _ => false, (List.filter_eq_nil_iff.mpr (fun _ _ => Bool.false_ne_true)).symm⟩, fun m hm => by cases hm⟩
theorem cls_all {cs : List Ch} {zs : List Str} (w : Wr zs cs) : Cls cs (srt (names cs)) := ⟨⟨fun _ => true, (List.filter_eq_self.mpr fun _ _ => rfl).symm⟩, fun m hm k hk => mem_srt.mpr (kn_names w (mem_srt.mp hm) hk)⟩
theorem cls_part {cs : List Ch} {zs : List Str} (w : Wr zs cs) {nms : List Nm} (nin : ∀ m ∈ nms, m ∈ names cs) : Cls cs (partP cs nms) := by
  refine ⟨⟨_, rfl⟩, fun m hm k hk => ?_⟩
  obtain ⟨h1, h2⟩ := List.mem_filter.mp hm
  have h2 := of_decide_eq_true h2
  refine List.mem_filter.mpr ⟨mem_srt.mpr (kn_names w (mem_srt.mp h1) hk), decide_eq_true (List.mem_append_right _ (List.mem_flatMap.mpr ?_))⟩
  rcases List.mem_append.mp h2 with h | h
  · exact ⟨m, h, hk⟩
  · obtain ⟨x, hx, hmx⟩ := List.mem_flatMap.mp h
    obtain ⟨c, hf, hc, e⟩ := findC_mem (nin x hx)
    rw [knOf_eq hf] at hmx
    exact ⟨x, hx, by rw [knOf_eq hf]; exact kn_trans w c hc m hmx k hk⟩
theorem filt_mem (l : List Nm) (p : Nm → Bool) : (l.filter fun x => decide (x ∈ l.filter p)) = l.filter p := by
  refine List.filter_congr fun x hx => ?_
  cases h : p x with
  | true => exact decide_eq_true (List.mem_filter.mpr ⟨hx, h⟩)
  | false => exact decide_eq_false fun z => by rw [(List.mem_filter.mp z).2] at h; cases h
theorem cls_names {cs : List Ch} {zs : List Str} (w : Wr zs cs) {nms : List Nm} (h : Cls cs nms) : names (ledP cs nms) = nms := by
  unfold ledP
  rw [led_names (names_nodup w) _ _ fun n hn => mem_srt.mp hn]
  obtain ⟨p, rfl⟩ := h.srt
  exact filt_mem _ _
theorem below_base {cs : List Ch} {zs : List Str} (w : Wr zs cs) {nms : List Nm} (h : Cls cs nms) : ∀ (m : Nat) (c : Ch), c ∈ cs → c.nm ∈ nms → c.nm.1.toNat ≤ m → ∀ n ∈ c.kn, ∃ c' ∈ cs, c'.nm ∈ nms ∧ n ∈ c'.base := by
  intro m
  induction m with
  | zero =>
    intro c hc hn hm n hk
    have h1 := cnt_lt w c hc n hk
    have h2 := (cnt_le w n (kn_sub w c hc n hk)).1
    omega
  | succ m ih =>
    intro c hc hn hm n hk
    obtain ⟨b, hb, h1⟩ := base_gen w c hc n hk
    rcases h1 with rfl | h1
    · exact ⟨c, hc, hn, hb⟩
    · have hbk := base_sub w c hc b hb
      have hbn : b ∈ nms := h.clo c.nm hn b (by rw [knOf_own w hc]; exact hbk)
      obtain ⟨cb, hf, hcb, rfl⟩ := findC_mem (h.sub b hbn)
      have lt := cnt_lt w c hc _ hbk
      have ge := (cnt_le w cb.nm (h.sub _ hbn)).1
      exact ih cb hcb hbn (by omega) n (by rw [← knOf_own w hcb]; exact h1)
theorem tops_eq {cs : List Ch} {zs : List Str} (w : Wr zs cs) {nms : List Nm} (h : Cls cs nms) : topsP (ledP cs nms) = nms.filter fun n => !decide (n ∈ nms.flatMap (knOf cs)) := by
  unfold topsP
  rw [cls_names w h]
  refine List.filter_congr fun n hn => ?_
  congr 1
  refine decide_eq_decide.mpr ?_
  have hM : ∀ c, c ∈ ledP cs nms ↔ c ∈ cs ∧ c.nm ∈ nms := fun c => by
    constructor
    · intro hc
      refine ⟨ledP_mem hc, ?_⟩
      rw [← cls_names w h]
      exact List.mem_map.mpr ⟨c, hc, rfl⟩
    · rintro ⟨hc, hcn⟩
      rw [← cls_names w h] at hcn
      obtain ⟨d, hd, e⟩ := List.mem_map.mp hcn
      have h1 := find_own (names_nodup w) (ledP_mem hd)
      have h2 := find_own (names_nodup w) hc
      rw [show d.nm = c.nm from e, h2] at h1
      cases h1
      exact hd
  constructor
  · intro hb
    obtain ⟨c, hc, hb⟩ := List.mem_flatMap.mp hb
    obtain ⟨h1, h2⟩ := (hM c).mp hc
    exact List.mem_flatMap.mpr ⟨c.nm, h2, by rw [knOf_own w h1]; exact base_sub w c h1 n hb⟩
  · intro hb
    obtain ⟨m, hm, hk⟩ := List.mem_flatMap.mp hb
    obtain ⟨c, hf, hc, rfl⟩ := findC_mem (h.sub m hm)
    rw [knOf_own w hc] at hk
    obtain ⟨c', h1, h2, h3⟩ := below_base w h _ c hc hm (Nat.le_refl _) n hk
    exact List.mem_flatMap.mpr ⟨c', (hM c').mpr ⟨h1, h2⟩, h3⟩
end Lw

set_option maxHeartbeats 4000000
/-! L8A: what each change knows, as the program reckons it. -/
namespace Lw
open PySem PySem.Spec PyProof.Rows L2 Mw Aw
/-! ### orders -/
theorem lexLe_anti : ∀ {a b : List Nat}, lexLe a b = true → lexLe b a = true → a = b
  | [], [], _, _ => rfl
  | [], _ :: _, _, h => by simp [lexLe] at h
  | _ :: _, [], h, _ => by simp [lexLe] at h
  | x :: a, y :: b, h1, h2 => by
    unfold lexLe at h1 h2
    by_cases e : x = y
    · subst e
      rw [if_pos rfl] at h1 h2
      rw [lexLe_anti h1 h2]
    · rw [if_neg e] at h1
      rw [if_neg (Ne.symm e)] at h2
      have := of_decide_eq_true h1
      have := of_decide_eq_true h2
      omega
theorem leN_anti {a b : Nm} (h1 : leN a b = true) (h2 : leN b a = true) : a = b := by
  rw [leN_eq] at h1 h2
  by_cases e : a.1 = b.1
  · rw [if_pos e] at h1
    rw [if_pos e.symm] at h2
    have := lexLe_anti h1 h2
    obtain ⟨i, ⟨x⟩⟩ := a
    obtain ⟨j, ⟨y⟩⟩ := b
    have e : i = j := e
    subst e
    have : x = y := Array.toList_inj.mp this
    rw [this]
  · rw [if_neg e] at h1
    rw [if_neg (Ne.symm e)] at h2
    have := of_decide_eq_true h1
    have := of_decide_eq_true h2
    omega
theorem sorted_eq {l m : List Nm} (p : l.Perm m) (h1 : l.Pairwise fun a b => leN a b = true) (h2 : m.Pairwise fun a b => leN a b = true) : l = m :=
  p.eq_of_pairwise (fun a b _ _ ha hb => leN_anti ha hb) h1 h2
theorem sorted_mem {l m : List Nm} (nl : l.Nodup) (nm : m.Nodup) (h : ∀ x, x ∈ l ↔ x ∈ m) (h1 : l.Pairwise fun a b => leN a b = true) (h2 : m.Pairwise fun a b => leN a b = true) : l = m :=
  sorted_eq ((List.perm_ext_iff_of_nodup nl nm).mpr h) h1 h2
/-! ### by name -/
def fBy : AF := fun ws σ Q _ => ∃ M, ws = [.d (ledD M)] ∧ M.length ≤ 1000 ∧ (names M).Nodup ∧ Q (.ref σ.length) (σ ++ [.dct true (kv1 M)])
instance : MoF fBy := ⟨fun k ⟨M, h1, h2, h3, q⟩ => ⟨M, h1, h2, h3, k _ _ q⟩⟩
theorem kv1_get (M : List Ch) (n : Nm) : dget (kv1 M) (nmD n) = (findC M n).map fun c => W.d (Mw.chD c) := get_names ..
theorem kv1_put {M : List Ch} {c : Ch} (h : c.nm ∉ names M) : dput (kv1 M) (nmD c.nm) (.d (Mw.chD c)) = kv1 (M ++ [c]) := by
  rw [dput_new (by rw [kv1_get, find_none h]; rfl)]
  simp [kv1]
theorem kv1_same {M : List Ch} {c : Ch} (nd : (names M).Nodup) (h : c ∈ M) : dput (kv1 M) (nmD c.nm) (.d (Mw.chD c)) = kv1 M := by
  rw [dput_old (by rw [kv1_get, find_own nd h]; rfl)]
  unfold kv1
  rw [List.map_map]
  refine List.map_congr_left fun d hd => ?_
  dsimp only [Function.comp]
  split
  · rename_i e
    have e' : d.nm = c.nm := nmD_inj e
    have : d = c := by
      have h1 := find_own nd hd
      have h2 := find_own nd h
      rw [e', h2] at h1
      exact (Option.some.inj h1).symm
    rw [this]
  · rfl
theorem by_ok : ∀ ws σ Q X, fBy ws σ Q X → aFn 2 p8By ws σ Q X := by
  rintro ws σ Q X ⟨M, rfl, m1, nd, q⟩
  and_intros
  with_reducible refine r_dcT ?_
  and_intros
  rw [mapW]
  refine dc_on (fun i s => s = σ ++ [.dct true (kv1 (M.take i))]) rfl (fun i w s Rest hw h k => ?_) fun s h => ?_
  · subst h
    rw [List.getElem?_map] at hw
    obtain ⟨c, hc, rfl⟩ := Option.map_eq_some_iff.mp hw
    refine ⟨True.intro, ?_⟩
    and_intros
    refine r_ixT (x := nmD c.nm) at0 ?_
    and_intros
    refine ⟨_, _, rfl, rfl, px_j0, small (by rw [List.length_map, List.length_take]; omega), ?_⟩
    have hn : c.nm ∉ names (M.take i) := fun z => by
      have e : names M = names (M.take i) ++ names (M.drop i) := by rw [← List.map_append, List.take_append_drop]
      rw [e] at nd
      have hd : c.nm ∈ names (M.drop i) := by
        refine List.mem_map.mpr ⟨c, ?_, rfl⟩
        have hi := (List.getElem?_eq_some_iff.mp hc).1
        rw [List.drop_eq_getElem_cons hi]
        rw [List.getElem?_eq_getElem hi] at hc
        cases hc
        exact List.mem_cons_self ..
      exact (List.nodup_append.mp nd).2.2 _ z _ hd rfl
    rw [px_s0]
    refine k _ ?_
    show σ ++ [Cell.dct true (dput (kv1 (M.take i)) (nmD c.nm) (.d (Mw.chD c)))] = _
    rw [kv1_put hn, take_snoc hc]
  · subst h
    rw [List.length_map, List.take_length]
    exact ⟨True.intro, q⟩
/-! ### what is known, as gathered -/
abbrev yesD (l : List Nm) : PyData := .dict (l.map fun m => (nmD m, .bool true))
abbrev kvK (G : List (Nm × List Nm)) : List (PyData × W) := G.map fun p => (nmD p.1, .d (yesD p.2))
def look (G : List (Nm × List Nm)) (n : Nm) : List Nm := ((G.find? fun p => decide (p.1 = n)).map (·.2)).getD []
def elb (G : List (Nm × List Nm)) (base : List Nm) : List Nm := (base ++ base.flatMap (look G)).foldl ins []
def kg (G : List (Nm × List Nm)) : List Ch → List (Nm × List Nm)
  | [] => G
  | c :: M => kg (G ++ [(c.nm, elb G c.base)]) M
theorem get_K (n : Nm) : ∀ G : List (Nm × List Nm), dget (kvK G) (nmD n) = (G.find? fun p => decide (p.1 = n)).map fun p => W.d (yesD p.2)
  | [] => rfl
  | p :: G => by
    by_cases e : p.1 = n
    · show dget ((nmD p.1, W.d (yesD p.2)) :: kvK G) _ = _
      rw [dget_pos (by rw [e]), List.find?_cons, decide_eq_true e]; rfl
    · show dget ((nmD p.1, W.d (yesD p.2)) :: kvK G) _ = _
      rw [dget_neg (fun z => e (nmD_inj z)), get_K n G, List.find?_cons, decide_eq_false e]
theorem look_some {G : List (Nm × List Nm)} {n : Nm} (h : n ∈ G.map (·.1)) : (G.find? fun p => decide (p.1 = n)).map (fun p => W.d (yesD p.2)) = some (.d (yesD (look G n))) := by
  unfold look
  cases hf : G.find? fun p => decide (p.1 = n) with
  | none =>
    obtain ⟨p, hp, e⟩ := List.mem_map.mp h
    have := List.find?_eq_none.mp hf p hp
    rw [decide_eq_true e] at this
    exact absurd rfl this
  | some p => rfl
theorem prs_yes (σ : Sto) (l : List Nm) : prsOf σ (.d (yesD l)) = some (kvY l) := by
  show some _ = some _
  congr 1
  rw [List.map_map]
  rfl
theorem frz_yes {n : Nat} {σ : Sto} : ∀ l : List Nm, FrzPs n σ (kvY l) (l.map fun m => (nmD m, .bool true))
  | [] => .nil
  | m :: l => .cons (.d _) (frz_yes l)
theorem told_yes {σ j : Sto} {l : List Nm} {Q : QK} (q : Q (.d (yesD l)) σ) : Told σ.length σ (σ ++ .dct true (kvY l) :: j) (.ref σ.length) Q :=
  ⟨.app σ _, .inl ⟨_, .dct (Nat.le_refl _) (by rw [List.getElem?_append_right (Nat.le_refl _), Nat.sub_self]; rfl) (frz_yes l), by simpa using q⟩⟩
def fEby : AF := fun ws σ Q _ => ∃ base i G, ws = [.d (.tuple (base.map nmD)), .ref i] ∧ σ[i]? = some (.dct true (kvK G)) ∧ base.length ≤ 50 ∧ (∀ b ∈ base, b ∈ G.map (·.1)) ∧ (∀ b ∈ base, (look G b).length ≤ 50) ∧ Q (.d (yesD (elb G base))) σ
instance : MoF fEby := ⟨fun k ⟨b, i, G, h1, h2, h3, h4, h5, q⟩ => ⟨b, i, G, h1, h2, h3, h4, h5, k _ _ q⟩⟩
theorem eby_ok : ∀ ws σ Q X, fEby ws σ Q X → aFn 5 p8Eby ws σ (fun w σ' => Told σ.length σ σ' w Q) X := by
  rintro ws σ Q X ⟨base, i, G, rfl, hG, b50, bin, bl, q⟩
  have hi : i < σ.length := (List.getElem?_eq_some_iff.mp hG).1
  generalize hQ : (fun w σ' => Told σ.length σ σ' w Q) = Q'
  have key : Q' (.ref σ.length) (σ ++ [.dct true (kvY (elb G base))]) := by rw [← hQ]; exact told_yes q
  clear hQ q
  and_intros
  with_reducible refine r_dcT ?_
  and_intros
  rw [mapW]
  refine dc_names base (fun _ => True.intro) rfl [] (by rw [List.length_nil]; omega) (fun x hx j => ?_) ?_
  · and_intros
    refine ⟨rfl, ?_⟩
    and_intros
    refine ⟨rfl, ?_⟩
    and_intros
    exact ⟨rfl, rfl⟩
  and_intros
  rw [mapW]
  refine loop_run (fun k e s => ∃ v3 v4, e = [some (.d (.tuple (base.map nmD))), some (.ref i), some (.ref σ.length), v3, v4] ∧ s = σ ++ [.dct true (kvY ((base ++ (base.take k).flatMap (look G)).foldl ins []))]) ⟨none, none, rfl, by simp⟩ (fun k w e s Rest hw h kk => ?_) fun e s h => ?_
  · obtain ⟨v3, v4, rfl, rfl⟩ := h
    rw [List.getElem?_map] at hw
    obtain ⟨b, hb, rfl⟩ := Option.map_eq_some_iff.mp hw
    have hbm := List.mem_of_getElem? hb
    refine ⟨True.intro, ?_⟩
    and_intros
    refine r_ixD (kvs := kvK G) (by simp only [prsOf]; rw [List.getElem?_append_left hi, hG]) (kc_nm (f := fun p : Nm × List Nm => p.1) (g := fun p => W.d (yesD p.2)) G b) (by rw [get_K, look_some (bin b hbm)]) ?_
    show aLoop _ _ _ _ _ _ _
    have eit : ((look G b).map fun m => (nmD m, PyData.bool true)).map (fun p => W.d p.1) = (look G b).map fun m => W.d (nmD m) := by rw [List.map_map]; rfl
    rw [eit]
    refine loop_run (fun l e s => ∃ v4, e = [some (.d (.tuple (base.map nmD))), some (.ref i), some (.ref σ.length), some (.d (nmD b)), v4] ∧ s = σ ++ [.dct true (kvY ((base ++ (base.take k).flatMap (look G) ++ (look G b).take l).foldl ins []))]) ⟨_, rfl, by simp⟩ (fun l w e s Rest' hw' h' kk' => ?_) fun e s h' => ?_
    · obtain ⟨v4, rfl, rfl⟩ := h'
      rw [List.getElem?_map] at hw'
      obtain ⟨m, hm, rfl⟩ := Option.map_eq_some_iff.mp hw'
      refine ⟨True.intro, ?_⟩
      and_intros
      have l1 := fold_len (base ++ (base.take k).flatMap (look G) ++ (look G b).take l) []
      have l2 : ((base.take k).flatMap (look G)).length ≤ 2500 := by
        have g : ∀ t : List Nm, (∀ x ∈ t, x ∈ base) → (t.flatMap (look G)).length ≤ 50 * t.length := fun t => by
          induction t with
          | nil => intro _; simp
          | cons x t ih =>
            intro hx
            rw [List.flatMap_cons, List.length_append, List.length_cons]
            have := ih fun y hy => hx y (List.mem_cons_of_mem _ hy)
            have := bl x (hx x (by simp))
            omega
        have := g (base.take k) fun x hx => List.mem_of_mem_take hx
        rw [List.length_take] at this
        omega
      refine r_put px_j0 rfl (small' (by
        rw [List.length_append, List.length_append, List.length_take, List.length_nil] at l1
        have := bl b hbm
        rw [List.length_map]
        omega)) ?_
      rw [px_s0]
      refine kk' _ _ ⟨some (.d (nmD m)), rfl, ?_⟩
      show σ ++ [Cell.dct true (dput (kvY _) (nmD m) (.d (.bool true)))] = _
      rw [put_Y, take_snoc hm, ← List.append_assoc, List.foldl_append (l' := [m])]
      rfl
    · obtain ⟨v4, rfl, rfl⟩ := h'
      rw [List.length_map, List.take_length]
      refine ⟨True.intro, kk _ _ ⟨_, _, rfl, ?_⟩⟩
      rw [take_snoc hb, List.flatMap_append, List.append_assoc]
      simp
  · obtain ⟨v3, v4, rfl, rfl⟩ := h
    rw [List.length_map, List.take_length]
    refine ⟨True.intro, ?_⟩
    and_intros
    exact key
end Lw

set_option maxHeartbeats 4000000
/-! L8B: knowledge, ledgers put together. -/
namespace Lw
open PySem PySem.Spec PyProof.Rows L2 Mw Aw
theorem snocRec {α : Type} {P : List α → Prop} (nil : P []) (snoc : ∀ A d, P A → P (A ++ [d])) (l : List α) : P l := by
  have h : ∀ m : List α, P m.reverse := fun m => by
    induction m with
    | nil => exact nil
    | cons a m ih => rw [List.reverse_cons]; exact snoc _ _ ih
  have := h l.reverse
  rwa [List.reverse_reverse] at this
theorem kg_snoc : ∀ (A : List Ch) (G : List (Nm × List Nm)) (c : Ch), kg G (A ++ [c]) = kg G A ++ [(c.nm, elb (kg G A) c.base)]
  | [], G, c => rfl
  | a :: A, G, c => by
    show kg _ (A ++ [c]) = _
    rw [kg_snoc A]
    rfl
theorem kg_names (A : List Ch) : ∀ G : List (Nm × List Nm), (kg G A).map (·.1) = G.map (·.1) ++ names A := by
  induction A with
  | nil => intro G; simp [kg, names]
  | cons a A ih => intro G; rw [kg, ih]; simp [names]
theorem look_snoc (G : List (Nm × List Nm)) (n : Nm) (l : List Nm) (m : Nm) : look (G ++ [(n, l)]) m = if m ∈ G.map (·.1) then look G m else if m = n then l else [] := by
  unfold look
  rw [List.find?_append]
  by_cases h : m ∈ G.map (·.1)
  · rw [if_pos h]
    obtain ⟨p, hp, e⟩ := List.mem_map.mp h
    cases hf : G.find? fun p => decide (p.1 = m) with
    | none =>
      have := List.find?_eq_none.mp hf p hp
      rw [decide_eq_true e] at this
      exact absurd rfl this
    | some q => rfl
  · rw [if_neg h]
    have hf : (G.find? fun p => decide (p.1 = m)) = none := List.find?_eq_none.mpr fun p hp z => h (List.mem_map.mpr ⟨p, hp, of_decide_eq_true z⟩)
    rw [hf, Option.none_or]
    by_cases e : m = n
    · rw [if_pos e, List.find?_cons, decide_eq_true e.symm]; rfl
    · rw [if_neg e, List.find?_cons, decide_eq_false (Ne.symm e)]; rfl
theorem mem_elb {G : List (Nm × List Nm)} {base : List Nm} {n : Nm} : n ∈ elb G base ↔ n ∈ base ∨ ∃ b ∈ base, n ∈ look G b := by
  unfold elb
  rw [mem_fold, List.mem_append, List.mem_flatMap]
  simp
/-- what is gathered is what is known -/
theorem kg_kn {zs : List Str} {cs M : List Ch} (w : Wr zs cs) (l : Led cs M) : ∀ (A R : List Ch), M = A ++ R → ∀ c ∈ A, ∀ n, n ∈ look (kg [] A) c.nm ↔ n ∈ c.kn := by
  intro A
  refine snocRec (P := fun A => ∀ R, M = A ++ R → ∀ c ∈ A, ∀ n, n ∈ look (kg [] A) c.nm ↔ n ∈ c.kn) ?_ ?_ A
  · intro R _ c hc; cases hc
  · intro A d ih R hM c hc n
    have hM' : M = A ++ d :: R := by rw [hM, List.append_assoc]; rfl
    have ih' := ih (d :: R) hM'
    rw [kg_snoc, look_snoc, kg_names]
    have nd := l.nd
    have en : names M = names A ++ d.nm :: names R := by rw [hM']; simp [names]
    rw [en] at nd
    have ndA := (List.nodup_append.mp nd).2.2
    have nin : d.nm ∉ names A := fun z => ndA d.nm z d.nm (by simp) rfl
    have hdc : d ∈ cs := l.mem d (by rw [hM']; simp)
    rcases List.mem_append.mp hc with h | h
    · rw [if_pos (by simp [names]; exact ⟨c, h, rfl⟩)]
      exact ih' c h n
    · have e := List.mem_singleton.mp h
      subst e
      rw [if_neg (by simpa using nin), if_pos rfl, mem_elb]
      have hb := l.bef A R c hM'
      constructor
      · rintro (h | ⟨b, hb1, hn⟩)
        · exact base_sub w c hdc n h
        · obtain ⟨cb, hcb, e⟩ := List.mem_map.mp (hb b hb1)
          have e : cb.nm = b := e
          rw [← e] at hn
          have hk := (ih' cb hcb n).mp hn
          have hcb' : cb ∈ cs := l.mem cb (by rw [hM']; exact List.mem_append_left _ hcb)
          exact kn_trans w c hdc b (base_sub w c hdc b hb1) n (by rw [← e, knOf_own w hcb']; exact hk)
      · intro hn
        obtain ⟨b, hb1, h⟩ := base_gen w c hdc n hn
        rcases h with h | h
        · exact .inl (by rw [h]; exact hb1)
        · obtain ⟨cb, hcb, e⟩ := List.mem_map.mp (hb b hb1)
          have e : cb.nm = b := e
          have hcb' : cb ∈ cs := l.mem cb (by rw [hM']; exact List.mem_append_left _ hcb)
          refine .inr ⟨b, hb1, ?_⟩
          rw [← e]
          refine (ih' cb hcb n).mpr ?_
          rw [← knOf_own w hcb', e]
          exact h
theorem elb_nodup (G : List (Nm × List Nm)) (base : List Nm) : (elb G base).Nodup := fold_nodup _ [] .nil
theorem kg_len {zs : List Str} {cs M : List Ch} (w : Wr zs cs) (l : Led cs M) {A R : List Ch} (hM : M = A ++ R) : ∀ c ∈ A, (look (kg [] A) c.nm).length ≤ cs.length := fun c hc => by
  have nd : (look (kg [] A) c.nm).Nodup := by
    have g : ∀ (A : List Ch) (m : Nm), (look (kg [] A) m).Nodup := fun A => by
      refine snocRec (P := fun A => ∀ m, (look (kg [] A) m).Nodup) ?_ ?_ A
      · intro m; exact .nil
      · intro A d ih m
        rw [kg_snoc, look_snoc]
        split
        · exact ih m
        · split
          · exact elb_nodup _ _
          · exact .nil
    exact g A c.nm
  have := nodup_len nd (m := names cs) fun n hn => kn_sub w c (l.mem c (by rw [hM]; exact List.mem_append_left _ hc)) n ((kg_kn w l A R hM c hc n).mp hn)
  rw [List.length_map] at this
  exact this
abbrev kgD (G : List (Nm × List Nm)) : PyData := .dict (G.map fun p => (nmD p.1, yesD p.2))
theorem frz_kg {n : Nat} {σ : Sto} : ∀ G : List (Nm × List Nm), FrzPs n σ (kvK G) (G.map fun p => (nmD p.1, yesD p.2))
  | [] => .nil
  | p :: G => .cons (.d _) (frz_kg G)
theorem told_kg {σ j : Sto} {G : List (Nm × List Nm)} {Q : QK} (q : Q (.d (kgD G)) σ) : Told σ.length σ (σ ++ .dct true (kvK G) :: j) (.ref σ.length) Q :=
  ⟨.app σ _, .inl ⟨_, .dct (Nat.le_refl _) (by rw [List.getElem?_append_right (Nat.le_refl _), Nat.sub_self]; rfl) (frz_kg G), by simpa using q⟩⟩
def fKno : AF := fun ws σ Q _ => ∃ zs cs M, ws = [.d (ledD M)] ∧ Wr zs cs ∧ cs.length ≤ 50 ∧ Led cs M ∧ (∀ c ∈ M, c.base.length ≤ 50) ∧ Q (.d (kgD (kg [] M))) σ
instance : MoF fKno := ⟨fun k ⟨z, c, M, h1, h2, h3, h4, h5, q⟩ => ⟨z, c, M, h1, h2, h3, h4, h5, k _ _ q⟩⟩
theorem led_len {cs M : List Ch} (l : Led cs M) : M.length ≤ cs.length := by
  have := nodup_len l.nd (m := names cs) fun n hn => by
    obtain ⟨c, hc, rfl⟩ := List.mem_map.mp hn
    exact List.mem_map.mpr ⟨c, l.mem c hc, rfl⟩
  rwa [List.length_map, List.length_map] at this
theorem kno_ok : ∀ ws σ Q X, fKno ws σ Q X → aFn 3 (p8Kno fEby) ws σ (fun w σ' => Told σ.length σ σ' w Q) X := by
  rintro ws σ Q X ⟨zs, cs, M, rfl, wr, c50, l, b50, q⟩
  generalize hQ : (fun w σ' => Told σ.length σ σ' w Q) = Q'
  have key : Q' (.ref σ.length) (σ ++ [.dct true (kvK (kg [] M))]) := by rw [← hQ]; exact told_kg q
  clear hQ q
  have ml := led_len l
  and_intros
  rw [mapW]
  refine loop_run (fun i e s => ∃ v2, e = [some (.d (ledD M)), some (.ref σ.length), v2] ∧ s = σ ++ [.dct true (kvK (kg [] (M.take i)))]) ⟨none, rfl, rfl⟩ (fun i w e s Rest hw h k => ?_) fun e s h => ?_
  · obtain ⟨v2, rfl, rfl⟩ := h
    rw [List.getElem?_map] at hw
    obtain ⟨c, hc, rfl⟩ := Option.map_eq_some_iff.mp hw
    have hi := (List.getElem?_eq_some_iff.mp hc).1
    have edr : M.drop i = c :: M.drop (i + 1) := by
      rw [List.drop_eq_getElem_cons hi]
      rw [List.getElem?_eq_getElem hi] at hc
      cases hc
      rfl
    have hM : M = M.take i ++ c :: M.drop (i + 1) := by rw [← edr, List.take_append_drop]
    have nin : c.nm ∉ names (M.take i) := fun z => by
      have nd := l.nd
      rw [hM] at nd
      have nd' : (names (M.take i) ++ c.nm :: names (M.drop (i + 1))).Nodup := by simpa [names] using nd
      exact (List.nodup_append.mp nd').2.2 _ z _ (by simp) rfl
    have bin := l.bef _ _ _ hM
    refine ⟨True.intro, ?_⟩
    and_intros
    refine r_ixT (x := .tuple (c.base.map nmD)) rfl ?_
    and_intros
    refine ⟨c.base, σ.length, kg [] (M.take i), rfl, px_j0, b50 c (List.mem_of_getElem? hc), fun b hb => (by rw [kg_names]; simpa using bin b hb), fun b hb => ?_, ?_⟩
    · obtain ⟨cb, hcb, e⟩ := List.mem_map.mp (bin b hb)
      rw [← e]
      exact Nat.le_trans (kg_len wr l hM cb hcb) c50
    and_intros
    refine r_ixT (x := nmD c.nm) at0 ?_
    refine r_put px_j0 rfl (small' (by
      have : (kg [] (M.take i)).length = (M.take i).length := by
        have h1 := congrArg List.length (kg_names (M.take i) [])
        simpa [names] using h1
      rw [List.length_map, this, List.length_take]
      omega)) ?_
    rw [px_s0]
    refine k _ _ ⟨_, rfl, ?_⟩
    show σ ++ [Cell.dct true (dput (kvK (kg [] (M.take i))) (nmD c.nm) (.d (yesD (elb (kg [] (M.take i)) c.base))))] = _
    rw [take_snoc hc, kg_snoc, dput_new]
    · simp [kvK]
    · rw [get_K]
      have : (kg [] (M.take i)).find? (fun p => decide (p.1 = c.nm)) = none := List.find?_eq_none.mpr fun p hp z => nin (by
        have h1 : p.1 ∈ (kg [] (M.take i)).map (·.1) := List.mem_map.mpr ⟨p, hp, rfl⟩
        rw [kg_names] at h1
        rw [← of_decide_eq_true z]
        simpa using h1)
      rw [this]
      rfl
  · obtain ⟨v2, rfl, rfl⟩ := h
    rw [List.length_map, List.take_length]
    refine ⟨True.intro, ?_⟩
    and_intros
    exact key
/-! ### a branch is one row -/
theorem step_grounds {zs : List Str} {cs : List Ch} {c : Ch} (s : StepOk zs cs c) {m : Nm} (h : lastOf c.nm.2 cs = some m) : m ∈ c.kn ∧ ∀ k ∈ knOf cs m, k ∈ c.kn := by
  obtain ⟨br, hand, gs, deed, _, _, hg, hl, rfl, _⟩ := s.ex
  have hm := hl m h
  refine ⟨mem_srt.mpr (mem_want hm), fun k hk => mem_srt.mpr (mem_want_iff.mpr ⟨m, hm, .inl hk⟩)⟩
theorem br_last {zs : List Str} {cs : List Ch} (w : Wr zs cs) : ∀ d ∈ cs, ∀ m, lastOf d.nm.2 cs = some m → d.nm = m ∨ d.nm ∈ knOf cs m := by
  induction w with
  | nil => intro d hd; cases hd
  | snoc w s ih =>
    rename_i cs c0
    intro d hd m hm
    rw [lastOf_snoc] at hm
    have w' : Wr zs (cs ++ [c0]) := .snoc w s
    rcases List.mem_append.mp hd with h | h
    · by_cases e : c0.nm.2 = d.nm.2
      · rw [if_pos e] at hm
        cases hm
        obtain ⟨m', h1, _⟩ := last_max w d h
        rw [knOf_own w' (by simp)]
        obtain ⟨g1, g2⟩ := step_grounds s (m := m') (by rw [e]; exact h1)
        rcases ih d h m' h1 with h2 | h2
        · exact .inr (by rw [h2]; exact g1)
        · exact .inr (g2 _ h2)
      · rw [if_neg e] at hm
        rcases ih d h m hm with h2 | h2
        · exact .inl h2
        · refine .inr ?_
          have hmn : m ∈ names cs := by
            unfold knOf at h2
            cases hf : findC cs m with
            | none => rw [hf] at h2; cases h2
            | some c => exact List.mem_map.mpr ⟨c, List.mem_of_find?_eq_some hf, of_decide_eq_true (List.find?_some (p := fun c : Ch => decide (c.nm = m)) hf)⟩
          rw [knOf_old hmn]
          exact h2
    · rw [List.mem_singleton.mp h, if_pos rfl] at hm
      cases hm
      exact .inl (by rw [List.mem_singleton.mp h])
theorem br_new {zs : List Str} {cs : List Ch} {c0 : Ch} (w : Wr zs cs) (s : StepOk zs cs c0) {d : Ch} (h : d ∈ cs) (e : c0.nm.2 = d.nm.2) : d.nm ∈ c0.kn := by
  obtain ⟨m', h1, _⟩ := last_max w d h
  obtain ⟨g1, g2⟩ := step_grounds s (m := m') (by rw [e]; exact h1)
  rcases br_last w d h m' h1 with h2 | h2
  · rw [h2]; exact g1
  · exact g2 _ h2
theorem br_known {zs : List Str} {cs : List Ch} (w : Wr zs cs) : ∀ c ∈ cs, ∀ d ∈ cs, c.nm.2 = d.nm.2 → d.nm.1 < c.nm.1 → d.nm ∈ c.kn := by
  induction w with
  | nil => intro c hc; cases hc
  | snoc w s ih =>
    rename_i cs c0
    have w' : Wr zs (cs ++ [c0]) := .snoc w s
    intro c hc d hd e lt
    rcases List.mem_append.mp hc with h | h
    · rcases List.mem_append.mp hd with h' | h'
      · exact ih c h d h' e lt
      · rw [List.mem_singleton.mp h'] at e lt ⊢
        have := cnt_lt w' c0 (by simp) _ (br_new w s h e.symm)
        omega
    · rw [List.mem_singleton.mp h] at e lt ⊢
      rcases List.mem_append.mp hd with h' | h'
      · exact br_new w s h' e
      · rw [List.mem_singleton.mp h'] at lt
        omega
theorem le_lt {a b : Nm} (h : leN a b = true) (e : a.2 = b.2) (ne : a ≠ b) : a.1 < b.1 := by
  rw [leN_eq] at h
  by_cases e1 : a.1 = b.1
  · exact absurd (Prod.ext e1 e) ne
  · rw [if_neg e1] at h
    exact of_decide_eq_true h
end Lw

set_option maxHeartbeats 4000000
/-! L7B: k07: what is due; the law. -/
namespace Lw
open PySem PySem.Spec PyProof.Rows L2 Mw Aw
theorem set_back {s : Sto} {i : Nat} {d e : Cell} (h : s[i]? = some d) : (s.set i e).set i d = s := by
  rw [List.set_set]
  refine List.ext_getElem? fun l => ?_
  by_cases q : i = l
  · subst q; rw [List.getElem?_set_self (List.getElem?_eq_some_iff.mp h).1, h]
  · rw [List.getElem?_set_ne q]
def f7Due : AF := fun ws σ Q _ => ∃ n cs nms zs, ws = [.ref n, .d (.tuple (nms.map nmD))] ∧ WdA σ n cs ∧ cs.length ≤ 16 ∧ Wr zs cs ∧ (∀ z ∈ zs, Wrd z) ∧ (∀ m ∈ names cs, Wrd m.2) ∧ (∀ m ∈ nms, Wrd m.2) ∧
  Q (.d (.str (ledD (ledP cs (dueN cs nms))).shown)) σ
instance : MoF f7Due := ⟨fun k ⟨n, cs, nms, zs, h1, h2, h3, h4, h5, h6, h7, q⟩ => ⟨n, cs, nms, zs, h1, h2, h3, h4, h5, h6, h7, k _ _ q⟩⟩
theorem due7_ok : ∀ ws σ Q X, f7Due ws σ Q X → aFn 5 (p7Due fLedger) ws σ Q X := by
  rintro ws σ Q X ⟨n, cs, nms, zs, rfl, wd, c16, wr, ww, cw, nw, q⟩
  with_reducible refine r_fn ?_
  with_reducible refine r_seq ?_
  refine r_lockS wd.a1 ?_
  and_intros
  refine ix_w1 (by rw [set_ne (by omega)]; exact wd.w) ?_
  refine r_itK (set_at wd.a1) ?_
  have eit : ((kv1 cs).map fun p => W.d p.1) = nmW (names cs) := by simp [nmW, names]
  rw [eit]
  refine lc_fz (fun i acc s => s = σ.set (n + 1) (.lck true (kv1 cs)) ∧ acc = (((names cs).take i).filter fun n => !decide (n ∈ nms)).map nmD) ⟨rfl, by simp⟩ (fun i acc s h => by rw [h.1]; exact ⟨rfl, fun _ _ h => .inl h⟩) (fun i w acc s Rest hw h k => ?_) fun acc s h => ?_
  · obtain ⟨rfl, rfl⟩ := h
    rw [List.getElem?_map] at hw
    obtain ⟨m, hm, rfl⟩ := Option.map_eq_some_iff.mp hw
    refine ⟨by rw [List.getElem?_append_left (by simp; exact (List.getElem?_eq_some_iff.mp wd.a1).1)]; exact set_at wd.a1, ?_⟩
    and_intros
    refine r_inT (shNm (cw m (List.mem_of_getElem? hm))) (shNmsT nw) ?_
    refine r_tbool ?_
    show if (!_) = true then _ else _
    rw [any_nm]
    refine r_iteN (fun hk => ?_) fun hk => ?_
    · and_intros
      refine tg_app rfl (small ?_) (k _ _ ⟨rfl, ?_⟩)
      · rw [List.length_map]
        have h2 := List.length_filter_le (fun n => !decide (n ∈ nms)) ((names cs).take i)
        rw [List.length_take, List.length_map] at h2
        omega
      · rw [take_snoc hm, List.filter_append, List.map_append]
        simp [hk]
    · refine k _ _ ⟨rfl, ?_⟩
      rw [take_snoc hm, List.filter_append, List.map_append]
      simp [hk]
  obtain ⟨rfl, rfl⟩ := h
  rw [List.length_map, List.take_length]
  refine ⟨by rw [List.getElem?_append_left (by simp; exact (List.getElem?_eq_some_iff.mp wd.a1).1)]; exact set_at wd.a1, ?_⟩
  with_reducible refine r_agN ?_
  refine ⟨set_at wd.a1, ?_⟩
  rw [set_back wd.a1]
  unfold dueN at q
  have L16 : ((names cs).filter fun n => !decide (n ∈ nms)).length ≤ 16 := by
    have h2 := List.length_filter_le (fun n => !decide (n ∈ nms)) (names cs)
    rw [List.length_map] at h2
    omega
  have Lin : ∀ m ∈ (names cs).filter (fun n => !decide (n ∈ nms)), m ∈ names cs := fun m hm => (List.mem_filter.mp hm).1
  generalize (names cs).filter (fun n => !decide (n ∈ nms)) = L at q L16 Lin ⊢
  and_intros
  have eit : (L.map nmD).map W.d = nmW L := by simp [nmW]
  rw [eit]
  refine lc_fz (fun i acc s => s = σ ∧ acc = ((L.take i).filter fun n => decide (((knOf cs n).filter fun k => decide (k ∈ nms)) = [])).map nmD) ⟨rfl, by simp⟩ (fun i acc s h => by rw [h.1]; exact ⟨rfl, fun _ _ h => .inl h⟩) (fun i w acc s Rest hw h k => ?_) fun acc s h => ?_
  · obtain ⟨rfl, rfl⟩ := h
    rw [List.getElem?_map] at hw
    obtain ⟨m, hm, rfl⟩ := Option.map_eq_some_iff.mp hw
    obtain ⟨ch, hch, hmem, enm⟩ := findC_mem (Lin m (List.mem_of_getElem? hm))
    have ek : knOf cs m = ch.kn := knOf_eq hch
    have kin : ∀ x ∈ ch.kn, x ∈ names cs := fun x hx => kn_sub wr ch hmem x hx
    refine ⟨True.intro, ?_⟩
    and_intros
    refine ix_kn wd.app ?_
    and_intros
    refine ix_knN wd.app hch ?_
    and_intros
    have eit : (ch.kn.map nmD).map W.d = nmW ch.kn := by simp [nmW]
    rw [eit]
    have klen : ch.kn.length ≤ 16 := kn_len wr c16 ch hmem
    refine lc_fz (fun l acc' s' => s' = s ++ [.lst ((((L.take i).filter fun n => decide (((knOf cs n).filter fun k => decide (k ∈ nms)) = [])).map nmD).map .d)] ∧ acc' = ((ch.kn.take l).filter fun k => decide (k ∈ nms)).map nmD) ⟨rfl, by simp⟩ (fun i acc s h => by rw [h.1]; exact ⟨rfl, fun _ _ h => .inl h⟩) (fun i' w acc' s' Rest' hw h k' => ?_) fun acc' s' h => ?_
    · obtain ⟨rfl, rfl⟩ := h
      rw [List.getElem?_map] at hw
      obtain ⟨x, hx, rfl⟩ := Option.map_eq_some_iff.mp hw
      refine ⟨True.intro, ?_⟩
      and_intros
      refine r_inT (shNm (cw x (kin x (List.mem_of_getElem? hx)))) (shNmsT nw) ?_
      refine r_tbool ?_
      show if _ = true then _ else _
      rw [any_nm]
      refine r_ite (fun hk => ?_) fun hk => ?_
      · and_intros
        refine tg_app rfl (small ?_) (k' _ _ ⟨rfl, ?_⟩)
        · rw [List.length_map]
          have h2 := List.length_filter_le (fun k => decide (k ∈ nms)) (ch.kn.take i')
          rw [List.length_take] at h2
          omega
        · rw [take_snoc hx, List.filter_append, List.map_append]
          simp [hk]
      · refine k' _ _ ⟨rfl, ?_⟩
        rw [take_snoc hx, List.filter_append, List.map_append]
        simp [hk]
    obtain ⟨rfl, rfl⟩ := h
    rw [List.length_map, List.take_length]
    refine ⟨True.intro, ?_⟩
    and_intros
    refine r_pures rfl (Nat.zero_le _) ?_
    and_intros
    refine ⟨⟨shNms (fun x hx => cw x (kin x (List.mem_filter.mp hx).1)), by decide +kernel⟩, ?_⟩
    show tstB _ (.d (.bool (PyData.eqv (.list ((ch.kn.filter fun k => decide (k ∈ nms)).map nmD)) (.list [])))) _
    rw [eqvNilN]
    refine r_tbool ?_
    rw [← ek]
    refine r_ite (fun hk => ?_) fun hk => ?_
    · and_intros
      refine tg_app rfl (small ?_) (k _ _ ⟨rfl, ?_⟩)
      · rw [List.length_map]
        have h2 := List.length_filter_le (fun n => decide (((knOf cs n).filter fun k => decide (k ∈ nms)) = [])) (L.take i)
        rw [List.length_take] at h2
        omega
      · rw [take_snoc hm, List.filter_append, List.map_append]
        simp [hk]
    · refine k _ _ ⟨rfl, ?_⟩
      rw [take_snoc hm, List.filter_append, List.map_append]
      simp [hk]
  obtain ⟨rfl, rfl⟩ := h
  rw [List.length_map, List.take_length]
  refine ⟨True.intro, ?_⟩
  and_intros
  refine ⟨n, cs, _, _, rfl, .inl rfl, wd, by omega, cw, fun m hm => cw m (Lin m (List.mem_filter.mp hm).1), ?_⟩
  exact ⟨_, _, rfl, rfl, shw_part wr ww (by omega) (fun c hc => ledP_mem hc) (by have := ledP_len cs (L.filter fun n => decide (((knOf cs n).filter fun k => decide (k ∈ nms)) = [])); omega), q⟩
end Lw

set_option maxHeartbeats 4000000
/-! L7D: k07: the law. -/
namespace Lw
open PySem PySem.Spec PyProof.Rows L2 Mw Aw
theorem wr_wrd {zs : List Str} {cs : List Ch} (w : Wr zs cs) (ww : ∀ z ∈ zs, Wrd z) (h : cs.length ≤ 17) : ∀ m ∈ names cs, Wrd m.2 := fun m hm => by
  obtain ⟨c, hc, rfl⟩ := List.mem_map.mp hm
  exact (ch_ok w ww h c hc).nm.wrd
/-- what is left behind all -/
abbrev lft (cs : List Ch) (nms : List Nm) : List Ch := (ledP cs (names cs)).filter fun c => !bad nms c
structure Facts (cs : List Ch) : Prop where
  a1 : ∀ nms, wout (gather nms) (ledP cs (names cs)) = lft cs nms
  a2 : ∀ nms, ledP cs (dueN cs nms) = lft cs nms
  b1 : ∀ nms t, wout (gather t) (lft cs nms) = lft cs (nms ++ t)
  nil : ∀ nms, lft cs (nms ++ []) = lft cs nms
  all : lft cs [] = ledP cs (names cs)
theorem facts {zs : List Str} {cs : List Ch} (w : Wr zs cs) : Facts cs := by
  have so : (names (ledP cs (names cs))).Pairwise fun a b => leN a b = true := by rw [all_names w]; exact srt_sorted _
  have cl : ∀ c ∈ ledP cs (names cs), ∀ b ∈ c.base, b ∈ names (ledP cs (names cs)) := fun c hc b hb => by
    rw [all_names w, mem_srt]
    exact kn_sub w c (ledP_mem hc) b (base_sub w c (ledP_mem hc) b hb)
  refine ⟨fun nms => wout_eq w (led_all w) nms, fun nms => due_eq w nms, fun nms t => ?_, fun nms => by rw [List.append_nil], ?_⟩
  · rw [wout_eq w (led_filter w (led_all w) so cl nms).1 t]
    unfold lft
    rw [List.filter_filter]
    congr 1
    funext c
    rw [bad_app]
    cases bad nms c <;> cases bad t c <;> rfl
  · unfold lft
    refine List.filter_eq_self.mpr fun c _ => ?_
    rw [bad_nil]
    rfl
abbrev tsD (Ts : List (List Nm)) : List PyData := Ts.map fun t => .tuple (t.map nmD)
theorem r_repr {σ : Sto} {Q : QK} {d : PyData} (h : Shw d) (q : Q (.d (.str d.shown)) σ) : reprW [.d d] σ Q := ⟨_, d, rfl, rfl, h, q⟩
theorem law7_ok (ns : List Int) (hl : ns.length ≤ 63) : aFn 10 (p7Law fWo f7Due f7Names fLedger fWorld fDraw fWords fFeed) [.scr ns] [] (fun w _ => w = .d (.bool true)) (fun _ _ => False) := by
  and_intros
  refine ⟨ns, rfl, hl, fun c0 hf0 => ?_⟩
  show agN _ _ _ (Sx [c0] 0 c0 []) _
  and_intros
  refine r_draw Nat.one_pos hf0 (by decide) (by decide) fun r c1 r0 r6 hf1 => ?_
  and_intros
  refine ⟨0, 1 + r, c1, rfl, by omega, by omega, rfl, hf1, fun zs c2 zl wrd hf2 => ?_⟩
  show agN _ _ _ (Sx [c0] 0 c2 []) _
  and_intros
  refine r_draw Nat.one_pos hf2 (by decide) (by decide) fun m c3 m0 m17 hf3 => ?_
  and_intros
  refine ⟨0, zs, m, c3, rfl, rfl, hf3, by omega, by omega, wrd, m0, by omega, fun cs c4 σ wr csl hf4 hc4 wd sl _ => ?_⟩
  have wd : WdA σ 1 cs := wd
  have csl : cs.length ≤ 16 := by omega
  have cw := wr_wrd wr wrd (by omega)
  have F := facts wr
  have of : Off 0 1 := .inl (by decide)
  have hF : 0 < σ.length := by rw [sl]; exact Nat.succ_pos _
  show agN _ (.ref 1) _ σ _
  rw [show σ = Sx σ 0 c4 [] from sx_start hc4]
  have W1 : ∀ {c j}, WdA (Sx σ 0 c j) 1 cs := fun {c j} => wd.sx of
  and_intros
  refine ix_ch W1 ?_
  and_intros
  refine ⟨_, _, rfl, W1.a1, ?_⟩
  rw [keys_1]
  and_intros
  refine ⟨1, cs, names cs, _, rfl, .inl rfl, W1, by omega, cw, cw, ?_⟩
  have m16 := ledP_len cs (names cs)
  have shM : Shw (ledD (ledP cs (names cs))) := shw_part wr wrd (by omega) (fun c hc => ledP_mem hc) (by omega)
  have lL' : ∀ nms, (lft cs nms).length ≤ 16 := fun nms => Nat.le_trans (List.length_filter_le _ _) (Nat.le_trans m16 csl)
  have shL : ∀ nms, Shw (ledD (lft cs nms)) := fun nms => shw_part wr wrd (by omega) (fun c hc => ledP_mem (List.mem_filter.mp hc).1) (Nat.le_trans (lL' nms) (by decide))
  have lL : ∀ nms, (lft cs nms).length ≤ 50 := fun nms => Nat.le_trans (lL' nms) (by decide)
  have M50 : (ledP cs (names cs)).length ≤ 50 := by omega
  and_intros
  refine r_repr shM ?_
  and_intros
  refine r_rng (by decide) (by decide) ?_
  refine lc_fz (fun i acc s => ∃ c Ts, s = Sx σ 0 c [] ∧ IsFeed c ∧ acc = tsD Ts ∧ Ts.length = i ∧ ∀ t ∈ Ts, t.length ≤ 160 ∧ ∀ m ∈ t, Wrd m.2) ⟨c4, [], rfl, hf4, rfl, rfl, fun t h => by cases h⟩ (fun i acc s h => by
    obtain ⟨c, Ts, rfl, hf, _⟩ := h
    exact sx_sh hF hf) (fun i w acc s Rest hw h k => ?_) fun acc s h => ?_
  · obtain ⟨c, Ts, rfl, hf, rfl, tl, tw⟩ := h
    obtain ⟨rfl, hi⟩ := rng_at hw
    refine ⟨True.intro, ?_⟩
    have hi4 : i < 4 := hi
    rw [sx_app]
    and_intros
    refine ⟨0, 1, cs, zs, c, rfl, sx_at hF, hf, of, W1, by omega, cw, by omega, by omega, wrd, fun nms c' nl nw hf' => ?_⟩
    rw [sx_set hF, ← sx_app]
    refine tg_app (by simp) (small (by rw [List.length_map]; omega)) (k _ _ ⟨c', Ts ++ [nms], rfl, hf', by simp [tsD], by simp [tl], fun t ht => ?_⟩)
    rcases List.mem_append.mp ht with h | h
    · exact tw t h
    · rw [List.mem_singleton.mp h]; exact ⟨nl, nw⟩
  obtain ⟨c5, Ts, rfl, hf5, rfl, tl, tw⟩ := h
  have tl4 : Ts.length = 4 := tl
  obtain ⟨t0, ht0⟩ : ∃ t0, Ts[0]? = some t0 := ⟨Ts[0], List.getElem?_eq_getElem (by omega)⟩
  have t0m := tw t0 (List.mem_of_getElem? ht0)
  refine ⟨True.intro, ?_⟩
  and_intros
  refine ⟨Nat.le_of_lt (small (by
    have := cutL_len (tsD Ts) none (some 1)
    rw [List.length_map] at this ⊢
    omega)), ?_⟩
  rw [show cutL (tsD Ts) none (some 1) = tsD (cutL Ts none (some 1)) from cutL_map _ _ _ _, show tsD Ts ++ tsD (cutL Ts none (some 1)) = tsD (Ts ++ cutL Ts none (some 1)) from (List.map_append ..).symm]
  have tin : ∀ t ∈ Ts ++ cutL Ts none (some 1), t.length ≤ 160 ∧ ∀ m ∈ t, Wrd m.2 := fun t ht => by
    rcases List.mem_append.mp ht with h | h
    · exact tw t h
    · exact tw t (cutL_mem h)
  generalize Ts ++ cutL Ts none (some 1) = Us at tin ⊢
  and_intros
  have eit : (tsD Us).map W.d = Us.map fun t => W.d (.tuple (t.map nmD)) := by simp [tsD]
  rw [eit]
  have e0 : atI (tsD Ts) 0 = some (.tuple (t0.map nmD)) := atI_nat (j := 0) (by rw [List.getElem?_map, ht0]; rfl)
  refine loop_run (fun i e s => ∃ v7 v8 v9, e = [some (.scr ns), some (.ref 0), some (.d (ssD zs)), some (.ref 1), some (.d (ledD (ledP cs (names cs)))), some (.d (.str (ledD (ledP cs (names cs))).shown)), some (.d (.list (tsD Ts))), v7, v8, v9] ∧ s = Sx σ 0 c5 [])
    ⟨_, _, _, rfl, rfl⟩ (fun i w e s Rest hw h k => ?_) fun e s h => ?_
  · obtain ⟨v7, v8, v9, rfl, rfl⟩ := h
    rw [List.getElem?_map] at hw
    obtain ⟨t, ht, rfl⟩ := Option.map_eq_some_iff.mp hw
    obtain ⟨tl, tw'⟩ := tin t (List.mem_of_getElem? ht)
    refine ⟨True.intro, ?_⟩
    and_intros
    refine ⟨_, t, rfl, M50, by omega, ?_⟩
    rw [F.a1]
    and_intros
    refine r_repr (shL t) ?_
    and_intros
    refine ⟨1, cs, t, zs, rfl, W1, csl, wr, wrd, cw, tw', ?_⟩
    rw [F.a2]
    and_intros
    refine r_iteN (fun h => absurd rfl h) fun _ => ?_
    and_intros
    refine r_ixL e0 ?_
    and_intros
    refine ⟨_, t0, rfl, lL t, by omega, ?_⟩
    rw [F.b1]
    and_intros
    refine r_repr (shL _) ?_
    and_intros
    refine r_ixL e0 ?_
    and_intros
    refine ⟨Nat.le_of_lt (small (by rw [List.length_map, List.length_map]; omega)), ?_⟩
    rw [← List.map_append]
    and_intros
    refine ⟨1, cs, t ++ t0, zs, rfl, W1, csl, wr, wrd, cw, fun m hm => (List.mem_append.mp hm).elim (tw' m) (t0m.2 m), ?_⟩
    rw [F.a2]
    and_intros
    refine r_iteN (fun h => absurd rfl h) fun _ => ?_
    and_intros
    refine r_pures rfl (Nat.zero_le _) ?_
    and_intros
    refine ⟨_, [], rfl, lL t, Nat.zero_le _, ?_⟩
    rw [F.b1, F.nil]
    and_intros
    refine r_repr (shL _) ?_
    and_intros
    refine r_repr (shL _) ?_
    and_intros
    refine r_iteN (fun h => absurd rfl h) fun _ => ?_
    and_intros
    exact k _ _ ⟨_, _, _, rfl, rfl⟩
  obtain ⟨v7, v8, v9, rfl, rfl⟩ := h
  refine ⟨True.intro, ?_⟩
  and_intros
  refine r_pures rfl (Nat.zero_le _) ?_
  and_intros
  refine ⟨_, [], rfl, M50, Nat.zero_le _, ?_⟩
  rw [F.a1, F.all]
  and_intros
  refine r_repr shM ?_
  and_intros
  refine r_ite (fun _ => ?_) fun h => absurd rfl h
  and_intros
  refine r_repr shM ?_
  and_intros
  show W.d (.bool (decide _)) = _
  rw [decide_eq_true rfl]
end Lw

set_option maxHeartbeats 4000000
/-! L5B: k05: right of a part; the law. -/
namespace Lw
open PySem PySem.Spec PyProof.Rows L2 Mw Aw
theorem shw_nms {l : List Nm} (h : ∀ n ∈ l, NmOk n) (hl : l.length ≤ 100) : Shw (.tuple (l.map nmD)) := by
  obtain ⟨a, b, c⟩ := fine_nms h
  have hf : fine (.tuple (l.map nmD)) = true := by simp only [fine]; exact a
  obtain ⟨s1, s2, s3⟩ := fine_show hf
  refine ⟨s1, s2, by simp only [PyData.depth]; omega, Nat.le_trans s3 ?_⟩
  simp only [wt]
  have : 2012 * l.length ≤ 2012 * 100 := Nat.mul_le_mul_left _ hl
  omega
theorem cutS_len (z : Str) (lo hi : Option Int) : (cutS z lo hi).length ≤ z.length := by
  show ((z.cps.toList.drop _).take _).toArray.size ≤ z.cps.size
  rw [List.size_toArray, List.length_take, List.length_drop, Array.length_toList]
  omega
theorem str_app_len (x y : Str) : (x ++ y).length = x.length + y.length := by
  show (x.cps ++ y.cps).size = _
  rw [Array.size_append]
  rfl
abbrev psD (Ps : List (List Nm)) : List PyData := Ps.map fun t => .list (t.map nmD)
abbrev psW (Ps : List (List Nm)) : List W := Ps.map fun t => .d (.list (t.map nmD))
def f5Right : AF := fun ws σ Q _ => ∃ n cs nms zs ys, ws = [.ref n, .d (.list (nms.map nmD)), .d (ssD ys)] ∧ WdA σ n cs ∧ cs.length ≤ 16 ∧ Wr zs cs ∧ (∀ z ∈ zs, Wrd z) ∧ Cls cs nms ∧ Q (.d (.bool true)) σ
instance : MoF f5Right := ⟨fun k ⟨n, cs, nms, zs, ys, h1, h2, h3, h4, h5, h6, q⟩ => ⟨n, cs, nms, zs, ys, h1, h2, h3, h4, h5, h6, k _ _ q⟩⟩
theorem right5_ok : ∀ ws σ Q X, f5Right ws σ Q X → aFn 8 (p5Right fBrn fTops fLedger) ws σ Q X := by
  rintro ws σ Q X ⟨n, cs, nms, zs, ys, rfl, wd, c16, wr, wrd, cl, q⟩
  have cw := wr_wrd wr wrd (by omega)
  have nok := nm_ok wr wrd (by omega : cs.length ≤ 17)
  have nl : nms.length ≤ 16 := by
    obtain ⟨p, rfl⟩ := cl.srt
    have := List.length_filter_le p (srt (names cs))
    rw [srt_len, List.length_map] at this
    omega
  have ml : (ledP cs nms).length ≤ 16 := Nat.le_trans (ledP_len cs nms) c16
  have shM : Shw (ledD (ledP cs nms)) := shw_part wr wrd (by omega) (fun c hc => ledP_mem hc) (by omega)
  and_intros
  refine ⟨n, cs, nms, _, rfl, .inl rfl, wd, by omega, cw, fun m hm => cw m (cl.sub m hm), ?_⟩
  and_intros
  refine r_repr shM ?_
  and_intros
  refine r_pures rfl (Nat.zero_le _) ?_
  and_intros
  rw [mapW]
  refine loop_run (fun i e s => ∃ v6, e = [some (.ref n), some (.d (.list (nms.map nmD))), some (.d (ssD ys)), some (.d (ledD (ledP cs nms))), some (.d (.str (ledD (ledP cs nms)).shown)), some (.d (.list (((nms.take i).flatMap (knOf cs)).map nmD))), v6, none] ∧ s = σ) ⟨none, by simp [aStart], rfl⟩ (fun i w e s Rest hw h k => ?_) fun e s h => ?_
  · obtain ⟨v6, rfl, rfl⟩ := h
    rw [List.getElem?_map] at hw
    obtain ⟨m, hm, rfl⟩ := Option.map_eq_some_iff.mp hw
    obtain ⟨c, hf, hc, _⟩ := findC_mem (cl.sub m (List.mem_of_getElem? hm))
    refine ⟨True.intro, ?_⟩
    and_intros
    refine ix_kn wd ?_
    and_intros
    refine ix_knN wd hf ?_
    and_intros
    have l1 := kn_flat_len wr c16 (l := nms.take i) fun x hx => cl.sub x (List.mem_of_mem_take hx)
    have l2 := kn_len wr c16 c hc
    refine r_addL (Nat.le_of_lt (small' (by
      rw [List.length_map, List.length_map]
      rw [List.length_take] at l1
      omega))) ?_
    refine k _ _ ⟨some (.d (nmD m)), ?_, rfl⟩
    rw [take_snoc hm, List.flatMap_append, ← List.map_append]
    simp [knOf_eq hf]
  obtain ⟨v6, rfl, rfl⟩ := h
  rw [List.length_map, List.take_length]
  refine ⟨True.intro, ?_⟩
  have bin : ∀ m ∈ nms.flatMap (knOf cs), Wrd m.2 := fun m hm => by
    obtain ⟨x, hx, hk⟩ := List.mem_flatMap.mp hm
    exact cw m (kn_names wr (cl.sub x hx) hk)
  and_intros
  refine ⟨ledP cs nms, rfl, by omega, fun c hc => (by have := (ch_ok wr wrd (by omega) c (ledP_mem hc)).bl; omega), ?_⟩
  rw [tops_eq wr cl]
  have shT : Shw (.tuple ((nms.filter fun n => !decide (n ∈ nms.flatMap (knOf cs))).map nmD)) := shw_nms (fun m hm => nok m (cl.sub m (List.mem_filter.mp hm).1)) (by
    have := List.length_filter_le (fun n => !decide (n ∈ nms.flatMap (knOf cs))) nms
    omega)
  and_intros
  refine r_repr shT ?_
  and_intros
  rw [mapW]
  refine lc_fm nms (fun m => .d (nmD m)) (fun m => if (!decide (m ∈ nms.flatMap (knOf cs))) = true then some (nmD m) else none) (fun _ => True.intro) (by omega) (fun m hm j Y N hy hno => ?_) ?_
  · and_intros
    refine r_inL (shNm (cw m (cl.sub m hm))) (shNmsT bin) ?_
    refine r_tbool ?_
    show if (!_) = true then _ else _
    rw [any_nm]
    refine r_iteN (fun hk => ?_) fun hk => ?_
    · and_intros
      exact ⟨_, rfl, rfl, hy _ (by rw [decide_eq_false hk]; rfl)⟩
    · exact ⟨rfl, hno (by rw [decide_eq_true hk]; rfl)⟩
  rw [fm_ite]
  and_intros
  refine r_repr shT ?_
  and_intros
  refine r_iteN (fun h => absurd rfl h) fun _ => ?_
  and_intros
  rw [mapW]
  refine loop_run (fun i e t => ∃ v6 v7, e = [some (.ref n), some (.d (.list (nms.map nmD))), some (.d (ssD ys)), some (.d (ledD (ledP cs nms))), some (.d (.str (ledD (ledP cs nms)).shown)), some (.d (.list ((nms.flatMap (knOf cs)).map nmD))), v6, v7] ∧ t = s) ⟨_, _, rfl, rfl⟩ (fun i w e t Rest hw h k => ?_) fun e t h => ?_
  · obtain ⟨v6, v7, rfl, rfl⟩ := h
    rw [List.getElem?_map] at hw
    obtain ⟨z, hz, rfl⟩ := Option.map_eq_some_iff.mp hw
    have shB : Shw (.tuple ((nms.filter fun n => decide (n.2 = z)).map nmD)) := shw_nms (fun m hm => nok m (cl.sub m (List.mem_filter.mp hm).1)) (by
      have := List.length_filter_le (fun n : Nm => decide (n.2 = z)) nms
      omega)
    refine ⟨True.intro, ?_⟩
    and_intros
    refine ⟨ledP cs nms, z, rfl, by omega, ?_⟩
    rw [cls_names wr cl]
    and_intros
    refine r_repr shB ?_
    and_intros
    rw [mapW]
    refine lc_fm nms (fun m => .d (nmD m)) (fun m => if (decide (m.2 = z)) = true then some (nmD m) else none) (fun _ => True.intro) (by omega) (fun m hm j Y N hy hno => ?_) ?_
    · and_intros
      refine r_ixT (x := .str m.2) rfl ?_
      and_intros
      refine r_ite (fun hk => ?_) fun hk => ?_
      · and_intros
        exact ⟨_, rfl, rfl, hy _ (by simp [hk])⟩
      · exact ⟨rfl, hno (by simp [hk])⟩
    rw [fm_ite]
    and_intros
    refine r_repr shB ?_
    and_intros
    refine r_iteN (fun h => absurd rfl h) fun _ => ?_
    and_intros
    exact k _ _ ⟨_, _, rfl, rfl⟩
  obtain ⟨v6, v7, rfl, rfl⟩ := h
  refine ⟨True.intro, ?_⟩
  and_intros
  refine r_repr shM ?_
  and_intros
  rw [decide_eq_true rfl]
  exact q
theorem law5_ok (ns : List Int) (hl : ns.length ≤ 63) : aFn 10 (p5Law f5Right fPart fDraw fWorld fWords fFeed) [.scr ns] [] (fun w _ => w = .d (.bool true)) (fun _ _ => False) := by
  and_intros
  refine ⟨ns, rfl, hl, fun c0 hf0 => ?_⟩
  show agN _ _ _ (Sx [c0] 0 c0 []) _
  and_intros
  refine r_draw Nat.one_pos hf0 (by decide) (by decide) fun r c1 r0 r6 hf1 => ?_
  and_intros
  refine ⟨0, 1 + r, c1, rfl, by omega, by omega, rfl, hf1, fun zs c2 zl wrd hf2 => ?_⟩
  show agN _ _ _ (Sx [c0] 0 c2 []) _
  and_intros
  refine r_draw Nat.one_pos hf2 (by decide) (by decide) fun m c3 m0 m17 hf3 => ?_
  and_intros
  refine ⟨0, zs, m, c3, rfl, rfl, hf3, by omega, by omega, wrd, m0, by omega, fun cs c4 σ wr csl hf4 hc4 wd sl _ => ?_⟩
  have wd : WdA σ 1 cs := wd
  have csl : cs.length ≤ 16 := by omega
  have cw := wr_wrd wr wrd (by omega)
  have of : Off 0 1 := .inl (by decide)
  have hF : 0 < σ.length := by rw [sl]; exact Nat.succ_pos _
  show agN _ (.ref 1) _ σ _
  rw [show σ = Sx σ 0 c4 [] from sx_start hc4]
  have W1 : ∀ {c j}, WdA (Sx σ 0 c j) 1 cs := fun {c j} => wd.sx of
  and_intros
  refine ix_ch W1 ?_
  and_intros
  refine r_srt W1.a1 (keys_1 cs) ?_
  have Ll : (srt (names cs)).length ≤ 16 := by rw [srt_len, List.length_map]; exact csl
  have Lin : ∀ m ∈ srt (names cs), m ∈ names cs := fun m hm => mem_srt.mp hm
  have clA := cls_all wr
  generalize srt (names cs) = L at Ll Lin clA ⊢
  obtain ⟨z0, hz0⟩ : ∃ z0, zs[0]? = some z0 := ⟨zs[0], List.getElem?_eq_getElem (by omega)⟩
  obtain ⟨zi, zl', hze⟩ : ∃ zi z, zs = zi ++ [z] := ⟨zs.dropLast, zs.getLast (by intro h; rw [h] at zl; simp at zl; omega), (List.dropLast_concat_getLast _).symm⟩
  have hzl : atI (zs.map PyData.str) (-1) = some (.str zl') := by rw [hze, List.map_append]; exact atI_last _ _
  have w0 := (wrd z0 (List.mem_of_getElem? hz0)).most
  have w1 := (wrd zl' (by rw [hze]; simp)).most
  have hs := sizeLine_eq
  and_intros
  refine r_ixL (x := .str z0) (atI_nat (j := 0) (by rw [List.getElem?_map, hz0]; rfl)) ?_
  and_intros
  refine r_addS (Nat.le_of_lt (small (by rw [show (Str.ofString "q").length = 1 from rfl]; omega))) ?_
  and_intros
  refine r_slS (Nat.le_of_lt (small (by rw [str_app_len, show (Str.ofString "q").length = 1 from rfl]; omega))) ?_
  generalize cutS (z0 ++ Str.ofString "q") (some (-8)) none = y1
  and_intros
  refine r_ixL hzl ?_
  and_intros
  refine r_slS (Nat.le_of_lt (small (by omega))) ?_
  have y2l := cutS_len zl' none (some (-1))
  generalize cutS zl' none (some (-1)) = y2 at y2l ⊢
  and_intros
  refine r_ixL hzl ?_
  and_intros
  refine r_lenS (Nat.le_of_lt (small (by omega))) ?_
  and_intros
  refine r_fdivI (.inl ⟨by decide, by decide⟩) ?_
  and_intros
  refine r_slS (Nat.le_of_lt (small (by rw [show (Str.ofString "zz").length = 2 from rfl]; omega))) ?_
  have y3l := cutS_len (Str.ofString "zz") (some (((zl'.length : Nat) : Int) / 8)) none
  rw [show (Str.ofString "zz").length = 2 from rfl] at y3l
  generalize cutS (Str.ofString "zz") (some (((zl'.length : Nat) : Int) / 8)) none = y3 at y3l ⊢
  and_intros
  refine r_addS (Nat.le_of_lt (small (by omega))) ?_
  generalize y2 ++ y3 = y4
  and_intros
  refine r_pures rfl (by show 3 ≤ sizeLine; decide) ?_
  and_intros
  refine r_addL (Nat.le_of_lt (small (by rw [List.length_map]; show zs.length + 3 ≤ 1000; omega))) ?_
  rw [show zs.map PyData.str ++ [PyData.str y1, PyData.str y4, PyData.str (Str.ofString "a")] = (zs ++ [y1, y4, Str.ofString "a"]).map PyData.str by simp]
  generalize zs ++ [y1, y4, Str.ofString "a"] = ys
  with_reducible refine r_agN ?_
  with_reducible refine r_seq ?_
  with_reducible refine r_asg ?_
  refine cutE (fun w s => w = .ref σ.length ∧ s = Sx σ 0 c4 [.lst (psW [L])]) ?_ fun w s hw => ?_
  · and_intros
    exact ⟨(by show 1 ≤ sizeLine; decide), (by rw [sx_len]; rfl), sx_app⟩
  obtain ⟨rfl, rfl⟩ := hw
  and_intros
  refine r_pures rfl (Nat.zero_le _) ?_
  and_intros
  refine ⟨⟨shNms (fun x hx => cw x (Lin x hx)), by decide +kernel⟩, ?_⟩
  refine r_nil ?_
  show intW [.d (.bool (!PyData.eqv (.list (L.map nmD)) (.list [])))] _ _
  rw [eqvNilN]
  refine .inr ⟨_, rfl, ?_⟩
  and_intros
  refine r_mulI (CMulU.l (by decide) (by decide)) ?_
  and_intros
  have hb : ∃ m : Int, 3 * (if (!decide (L = [])) = true then (1 : Int) else 0) = m ∧ 0 ≤ m ∧ m ≤ 3 ∧ (0 < m → L ≠ []) := by
    by_cases h : L = []
    · exact ⟨0, by simp [h], by decide, by decide, fun z => by omega⟩
    · exact ⟨3, by simp [h], by decide, by decide, fun _ => h⟩
  obtain ⟨m3, e3, m30, m33, mne⟩ := hb
  rw [e3]
  refine r_rng (by omega) (by omega) ?_
  refine loop_run (fun i e s => ∃ c v7 v8 v9 Ps, e = [some (.scr ns), some (.ref 0), some (.d (ssD zs)), some (.ref 1), some (.d (.list (L.map nmD))), some (.d (ssD ys)), some (.ref σ.length), v7, v8, v9] ∧ s = Sx σ 0 c [.lst (psW Ps)] ∧ IsFeed c ∧ Ps.length = i + 1 ∧ ∀ t ∈ Ps, Cls cs t)
    ⟨c4, none, none, none, [L], rfl, rfl, hf4, rfl, fun t ht => by rw [List.mem_singleton.mp ht]; exact clA⟩ (fun i w e s Rest hw h k => ?_) fun e s h => ?_
  · obtain ⟨c, v7, v8, v9, Ps, rfl, rfl, hf, pl, pc⟩ := h
    obtain ⟨rfl, hi⟩ := rng_at hw
    have hne := mne (by omega)
    have npos : 0 < L.length := List.length_pos_iff.mpr hne
    refine ⟨True.intro, ?_⟩
    and_intros
    refine r_tyC (ws := psW Ps) sx_j0 ?_
    and_intros
    refine r_draw hF hf (by decide) (by decide) fun r c5 r0 r3 hf5 => ?_
    and_intros
    refine r_rng (by omega) (by omega) ?_
    refine lc_fz (fun i acc s => ∃ c ms, s = Sx σ 0 c [.lst (psW Ps)] ∧ IsFeed c ∧ acc = ms.map nmD ∧ ms.length = i ∧ ∀ m ∈ ms, m ∈ names cs) ⟨c5, [], rfl, hf5, rfl, rfl, fun m hm => by cases hm⟩ (fun i acc s h => by
      obtain ⟨c, ms, rfl, hf, _⟩ := h
      exact sx_sh hF hf) (fun j w acc s Rest' hw' h k' => ?_) fun acc s h => ?_
    · obtain ⟨c, ms, rfl, hf, rfl, ml, mi⟩ := h
      obtain ⟨rfl, hj⟩ := rng_at hw'
      refine ⟨True.intro, ?_⟩
      rw [sx_app]
      and_intros
      refine r_draw hF hf (by rw [List.length_map]; omega) (by rw [List.length_map]; omega) fun r' c6 r0' r1' hf6 => ?_
      rw [List.length_map] at r1'
      obtain ⟨l, rfl⟩ : ∃ l : Nat, r' = (l : Int) := ⟨r'.toNat, (Int.toNat_of_nonneg r0').symm⟩
      have hlL : l < L.length := by omega
      refine r_ixL (x := nmD L[l]) (atI_nat (by rw [List.getElem?_map, List.getElem?_eq_getElem hlL]; rfl)) ?_
      rw [← sx_app]
      refine tg_app (by simp) (small (by rw [List.length_map]; omega)) (k' _ _ ⟨c6, ms ++ [L[l]], rfl, hf6, by simp, by simp [ml], fun m hm => ?_⟩)
      rcases List.mem_append.mp hm with h | h
      · exact mi m h
      · rw [List.mem_singleton.mp h]; exact Lin _ (List.getElem_mem _)
    obtain ⟨c7, ms, rfl, hf7, rfl, ml, mi⟩ := h
    rw [rng_len] at ml
    refine ⟨True.intro, ?_⟩
    and_intros
    refine ⟨1, cs, ms, zs, rfl, W1, csl, wr, cw, by omega, mi, ?_⟩
    and_intros
    refine r_append (ws := psW Ps) sx_j0 (small (by rw [List.length_map]; omega)) ?_
    refine k _ _ ⟨c7, _, _, _, Ps ++ [partP cs ms], rfl, by rw [sx_sj0]; simp [psW], hf7, by simp [pl], fun t ht => ?_⟩
    rcases List.mem_append.mp ht with h | h
    · exact pc t h
    · rw [List.mem_singleton.mp h]; exact cls_part wr mi
  obtain ⟨c, v7, v8, v9, Ps, rfl, rfl, hf, pl, pc⟩ := h
  rw [rng_len] at pl
  refine ⟨True.intro, ?_⟩
  and_intros
  refine r_pures rfl (Nat.zero_le _) ?_
  and_intros
  refine r_pures rfl (by show 2 ≤ sizeLine; decide) ?_
  refine r_2C (x := .list (psD Ps)) (by simp only [dat, sx_j0]; show (pures (psW Ps)).map _ = _; rw [show psW Ps = (psD Ps).map W.d by simp [psW, psD], pures_map]; rfl) rfl ?_
  refine r_addL (Nat.le_of_lt (small (by rw [List.length_map]; show Ps.length + 2 ≤ 1000; omega))) ?_
  rw [show psD Ps ++ [PyData.list [], PyData.list (L.map nmD)] = psD (Ps ++ [[], L]) by simp [psD]]
  have pc' : ∀ t ∈ Ps ++ [[], L], Cls cs t := fun t ht => by
    simp only [List.mem_append, List.mem_cons, List.not_mem_nil, or_false] at ht
    rcases ht with h | h | h
    · exact pc t h
    · rw [h]; exact cls_nil cs
    · rw [h]; exact clA
  have pl' : (Ps ++ [[], L]).length ≤ 1000 := by rw [List.length_append]; show Ps.length + 2 ≤ 1000; omega
  generalize Ps ++ [[], L] = Us at pc' pl'
  and_intros
  rw [mapW]
  refine lc_fm Us (fun t => .d (.list (t.map nmD))) (fun _ => none) (fun _ => True.intro) (by omega) (fun t ht j Y N hy hno => ?_) ?_
  · rw [sx_app]
    and_intros
    refine ⟨1, cs, t, zs, ys, rfl, W1, csl, wr, wrd, pc' t ht, ?_⟩
    and_intros
    exact ⟨rfl, hno rfl⟩
  and_intros
  refine r_pures rfl (Nat.zero_le _) ?_
  and_intros
  rw [show Us.filterMap (fun _ => (none : Option PyData)) = [] by simp]
  exact ⟨⟨by decide +kernel, by decide +kernel⟩, rfl⟩
end Lw

set_option maxHeartbeats 4000000
/-! L8C: in either, joined. -/
namespace Lw
open PySem PySem.Spec PyProof.Rows L2 Mw Aw
theorem r_agT2 {a b : PyData} {i j : Nat} {e : Ev} {σ : Sto} {N : Ev → Sto → Prop} (h : N ((e.set i (some (.d a))).set j (some (.d b))) σ) : agT 2 (agCons (agN i) (agCons (agN j) agNil)) (.d (.tuple [a, b])) e σ N :=
  ⟨[a, b], rfl, rfl, _, _, rfl, _, _, rfl, rfl, h⟩
theorem cut_take {α : Type} (l : List α) (k : Nat) : cutL l none (some (k : Int)) = l.take k := by
  unfold cutL
  rw [HT.sIx_none, HT.sIx_nat, List.drop_zero, Nat.sub_zero]
  by_cases h : k ≤ l.length
  · rw [Nat.min_eq_left h]
  · rw [Nat.min_eq_right (by omega), List.take_of_length_le (Nat.le_refl _), List.take_of_length_le (by omega)]
theorem fm_congr {α β : Type} {f g : α → Option β} : ∀ {l : List α}, (∀ x ∈ l, f x = g x) → l.filterMap f = l.filterMap g
  | [], _ => rfl
  | a :: l, h => by rw [List.filterMap_cons, List.filterMap_cons, h a (by simp), fm_congr (l := l) fun x hx => h x (List.mem_cons_of_mem _ hx)]
/-! ### parts of a world, by any names -/
structure ClP (cs : List Ch) (A : List Nm) : Prop where
  inn : ∀ m ∈ A, m ∈ names cs
  clo : ∀ m ∈ A, ∀ k ∈ knOf cs m, k ∈ A
theorem ClP.app {cs : List Ch} {A B : List Nm} (a : ClP cs A) (b : ClP cs B) : ClP cs (A ++ B) :=
  ⟨fun m hm => (List.mem_append.mp hm).elim (a.inn m) (b.inn m), fun m hm k hk => (List.mem_append.mp hm).elim (fun h => List.mem_append_left _ (a.clo m h k hk)) fun h => List.mem_append_right _ (b.clo m h k hk)⟩
theorem ClP.nil (cs : List Ch) : ClP cs [] := ⟨(fun m hm => by cases hm), (fun m hm => by cases hm)⟩
theorem ledP_names {cs : List Ch} (nd : (names cs).Nodup) (A : List Nm) : names (ledP cs A) = (srt (names cs)).filter fun n => decide (n ∈ A) := by
  unfold ledP
  exact led_names nd _ _ fun n hn => mem_srt.mp hn
theorem ledP_nil (cs : List Ch) : ledP cs [] = [] := by unfold ledP; simp
theorem mem_ledP {cs : List Ch} (nd : (names cs).Nodup) {A : List Nm} {c : Ch} : c ∈ ledP cs A ↔ c ∈ cs ∧ c.nm ∈ A := by
  constructor
  · intro h
    refine ⟨ledP_mem h, ?_⟩
    have : c.nm ∈ names (ledP cs A) := List.mem_map.mpr ⟨c, h, rfl⟩
    rw [ledP_names nd] at this
    exact of_decide_eq_true (List.mem_filter.mp this).2
  · rintro ⟨h1, h2⟩
    have : c.nm ∈ names (ledP cs A) := by
      rw [ledP_names nd]
      exact List.mem_filter.mpr ⟨mem_srt.mpr (List.mem_map.mpr ⟨c, h1, rfl⟩), decide_eq_true h2⟩
    obtain ⟨d, hd, e⟩ := List.mem_map.mp this
    have h3 := find_own nd (ledP_mem hd)
    have h4 := find_own nd h1
    rw [show d.nm = c.nm from e, h4] at h3
    cases h3
    exact hd
theorem srt_nodup {l : List Nm} (h : l.Nodup) : (srt l).Nodup := (srt_perm l).nodup_iff.mpr h
theorem ledP_nd {cs : List Ch} (nd : (names cs).Nodup) (A : List Nm) : (names (ledP cs A)).Nodup := by rw [ledP_names nd]; exact (srt_nodup nd).filter _
theorem ledP_so {cs : List Ch} (nd : (names cs).Nodup) (A : List Nm) : (names (ledP cs A)).Pairwise fun a b => leN a b = true := by
  rw [ledP_names nd]; exact (srt_sorted _).sublist List.filter_sublist
theorem ledP_led {zs : List Str} {cs : List Ch} (w : Wr zs cs) {A : List Nm} (h : ClP cs A) : Led cs (ledP cs A) := by
  have nd := names_nodup w
  refine led_of w (fun c hc => ledP_mem hc) (ledP_nd nd A) (ledP_so nd A) fun c hc b hb => ?_
  obtain ⟨h1, h2⟩ := (mem_ledP nd).mp hc
  have hk := base_sub w c h1 b hb
  have hbA := h.clo c.nm h2 b (by rw [knOf_own w h1]; exact hk)
  obtain ⟨cb, hf, hcb, rfl⟩ := findC_mem (h.inn b hbA)
  exact List.mem_map.mpr ⟨cb, (mem_ledP nd).mpr ⟨hcb, hbA⟩, rfl⟩
theorem sub_nd {cs U : List Ch} (nd : (names cs).Nodup) (hs : ∀ c ∈ U, c ∈ cs) {n : Nm} (h : n ∈ names U) : findC U n = findC cs n := by
  obtain ⟨c, hf, hc, e⟩ := findC_mem h
  rw [hf, ← e, find_own nd (hs c hc)]
/-- the changes of a set, told by names rising -/
theorem ledP_of {cs U : List Ch} (nd : (names cs).Nodup) (nu : (names U).Nodup) {X : List Nm} (hU : ∀ c, c ∈ U ↔ c ∈ cs ∧ c.nm ∈ X) : (srt (names U)).filterMap (findC U) = ledP cs X := by
  have e : srt (names U) = (srt (names cs)).filter fun n => decide (n ∈ X) := by
    refine sorted_mem (srt_nodup nu) ((srt_nodup nd).filter _) (fun n => ?_) (srt_sorted _) ((srt_sorted _).sublist List.filter_sublist)
    rw [mem_srt, List.mem_filter, mem_srt]
    constructor
    · intro h
      obtain ⟨c, hc, rfl⟩ := List.mem_map.mp h
      obtain ⟨h1, h2⟩ := (hU c).mp hc
      exact ⟨List.mem_map.mpr ⟨c, h1, rfl⟩, decide_eq_true h2⟩
    · rintro ⟨h1, h2⟩
      obtain ⟨c, hc, rfl⟩ := List.mem_map.mp h1
      exact List.mem_map.mpr ⟨c, (hU c).mpr ⟨hc, of_decide_eq_true h2⟩, rfl⟩
  unfold ledP
  rw [← e]
  refine fm_congr fun n hn => ?_
  exact sub_nd nd (fun c hc => ((hU c).mp hc).1) (mem_srt.mp hn)
theorem eiU_in {M N : List Ch} {c : Ch} (h : c.nm ∈ names N) : (N ++ (M ++ [c]).filter fun c => !decide (c.nm ∈ names N)) = N ++ M.filter fun c => !decide (c.nm ∈ names N) := by
  rw [List.filter_append, List.filter_cons, decide_eq_true h]
  simp
theorem eiU_out {M N : List Ch} {c : Ch} (h : c.nm ∉ names N) : (N ++ (M ++ [c]).filter fun c => !decide (c.nm ∈ names N)) = (N ++ M.filter fun c => !decide (c.nm ∈ names N)) ++ [c] := by
  rw [List.filter_append, List.filter_cons, decide_eq_false h, List.append_assoc]
  rfl
def fEin : AF := fun ws σ Q _ => ∃ cs A B, ws = [.d (ledD (ledP cs A)), .d (ledD (ledP cs B))] ∧ (names cs).Nodup ∧ cs.length ≤ 50 ∧ Q (.d (ledD (ledP cs (A ++ B)))) σ
instance : MoF fEin := ⟨fun k ⟨c, A, B, h1, h2, h3, q⟩ => ⟨c, A, B, h1, h2, h3, k _ _ q⟩⟩
abbrev eiU (M N : List Ch) : List Ch := N ++ M.filter fun c => !decide (c.nm ∈ names N)
theorem ein_ok : ∀ ws σ Q X, fEin ws σ Q X → aFn 5 (p8Ein fBy) ws σ (fun w σ' => Told σ.length σ σ' w Q) X := by
  rintro ws σ Q X ⟨cs, A, B, rfl, nd, c50, q⟩
  generalize hQ : (fun w σ' => Told σ.length σ σ' w Q) = Q'
  have key : ∀ {j : Sto}, Q' (.d (ledD (ledP cs (A ++ B)))) (σ ++ j) := fun {j} => by rw [← hQ]; exact told_d q
  clear hQ q
  have lA := ledP_len cs A
  have lB := ledP_len cs B
  have ndA := ledP_nd nd A
  have ndB := ledP_nd nd B
  have sA : ∀ c ∈ ledP cs A, c ∈ cs := fun c hc => ledP_mem hc
  have sB : ∀ c ∈ ledP cs B, c ∈ cs := fun c hc => ledP_mem hc
  have mm : ∀ c, c ∈ eiU (ledP cs A) (ledP cs B) ↔ c ∈ cs ∧ c.nm ∈ A ++ B := fun c => by
    rw [List.mem_append, List.mem_filter, mem_ledP nd, mem_ledP nd, List.mem_append]
    constructor
    · rintro (⟨h1, h2⟩ | ⟨⟨h1, h2⟩, _⟩)
      · exact ⟨h1, .inr h2⟩
      · exact ⟨h1, .inl h2⟩
    · rintro ⟨h1, h2⟩
      by_cases hB : c.nm ∈ B
      · exact .inl ⟨h1, hB⟩
      · refine .inr ⟨⟨h1, h2.resolve_right hB⟩, ?_⟩
        rw [decide_eq_false]
        · rfl
        · intro z
          rw [ledP_names nd] at z
          exact hB (of_decide_eq_true (List.mem_filter.mp z).2)
  generalize ledP cs A = M at lA ndA sA mm ⊢
  generalize ledP cs B = N at lB ndB sB mm ⊢
  and_intros
  refine ⟨N, rfl, by omega, ndB, ?_⟩
  and_intros
  rw [mapW]
  have same : ∀ {c d : Ch}, c ∈ cs → d ∈ cs → c.nm = d.nm → c = d := fun {c d} h1 h2 e => by
    have h3 := find_own nd h1
    have h4 := find_own nd h2
    rw [e, h4] at h3
    exact (Option.some.inj h3).symm
  have nU : ∀ i, (names (eiU (M.take i) N)).Nodup := fun i => by
    show (List.map Ch.nm (N ++ _)).Nodup
    rw [List.map_append]
    refine List.nodup_append.mpr ⟨ndB, ?_, fun a ha b hb e => ?_⟩
    · exact ndA.sublist (((List.filter_sublist).trans (List.take_sublist i M)).map Ch.nm)
    · obtain ⟨d, hd, rfl⟩ := List.mem_map.mp hb
      have h2 := (List.mem_filter.mp hd).2
      rw [← e, decide_eq_true (show a ∈ names N from ha)] at h2
      cases h2
  refine loop_run (fun i e s => ∃ v3 v4, e = [some (.d (ledD M)), some (.d (ledD N)), some (.ref σ.length), v3, v4] ∧ s = σ ++ [.dct true (kv1 (eiU (M.take i) N))]) ⟨none, none, rfl, by simp⟩ (fun i w e s Rest hw h k => ?_) fun e s h => ?_
  · obtain ⟨v3, v4, rfl, rfl⟩ := h
    rw [List.getElem?_map] at hw
    obtain ⟨c, hc, rfl⟩ := Option.map_eq_some_iff.mp hw
    have hcM := List.mem_of_getElem? hc
    refine ⟨True.intro, ?_⟩
    and_intros
    refine r_ixT (x := nmD c.nm) at0 ?_
    refine r_put px_j0 rfl (small' (by
      rw [List.length_map, List.length_append]
      have h1 := List.length_filter_le (fun c : Ch => !decide (c.nm ∈ names N)) (M.take i)
      rw [List.length_take] at h1
      omega)) ?_
    rw [px_s0]
    refine k _ _ ⟨_, _, rfl, ?_⟩
    show σ ++ [Cell.dct true (dput (kv1 (eiU (M.take i) N)) (nmD c.nm) (.d (Mw.chD c)))] = _
    congr 3
    by_cases hN : c.nm ∈ names N
    · obtain ⟨d, hd, e⟩ := List.mem_map.mp hN
      have ed := same (sB d hd) (sA c hcM) e
      subst ed
      rw [kv1_same (nU i) (List.mem_append_left _ hd), take_snoc hc]
      exact congrArg kv1 (eiU_in hN).symm
    · have nin : c.nm ∉ names (eiU (M.take i) N) := fun z => by
        obtain ⟨d, hd, e⟩ := List.mem_map.mp z
        rcases List.mem_append.mp hd with h | h
        · exact hN (List.mem_map.mpr ⟨d, h, e⟩)
        · have hdt := (List.mem_filter.mp h).1
          have hi := (List.getElem?_eq_some_iff.mp hc).1
          have en : names M = names (M.take i) ++ names (M.drop i) := by rw [← List.map_append, List.take_append_drop]
          rw [en] at ndA
          refine (List.nodup_append.mp ndA).2.2 c.nm (List.mem_map.mpr ⟨d, hdt, e⟩) c.nm (List.mem_map.mpr ⟨c, ?_, rfl⟩) rfl
          rw [List.drop_eq_getElem_cons hi]
          rw [List.getElem?_eq_getElem hi] at hc
          cases hc
          exact List.mem_cons_self ..
      rw [kv1_put nin, take_snoc hc]
      exact congrArg kv1 (eiU_out hN).symm
  · obtain ⟨v3, v4, rfl, rfl⟩ := h
    have nU' := nU M.length
    rw [List.length_map, List.take_length] at *
    refine ⟨True.intro, ?_⟩
    and_intros
    refine r_tupG ?_
    and_intros
    refine r_srt px_j0 (keys_1 _) ?_
    and_intros
    rw [mapW]
    have ul : (eiU M N).length ≤ 100 := by
      rw [List.length_append]
      have h1 := List.length_filter_le (fun c : Ch => !decide (c.nm ∈ names N)) M
      omega
    refine tg_fm (srt (names (eiU M N))) (fun n => .d (nmD n)) (fun n => (findC (eiU M N) n).map Mw.chD) True.intro (by rw [srt_len, List.length_map]; omega) (fun n hn Y No hy hno => ?_) ?_
    · obtain ⟨c, hf, hc, e⟩ := findC_mem (mem_srt.mp hn)
      and_intros
      refine r_ixD (kvs := kv1 (eiU M N)) (by simp only [prsOf, px_j0]; rfl) (kc_nm _ n) (by rw [kv1_get, hf]; rfl) ?_
      exact ⟨_, rfl, rfl, hy _ (by rw [hf]; rfl)⟩
    · rw [show (srt (names (eiU M N))).filterMap (fun n => (findC (eiU M N) n).map Mw.chD) = ((srt (names (eiU M N))).filterMap (findC (eiU M N))).map Mw.chD by rw [List.map_filterMap], ledP_of nd nU' mm]
      exact key
theorem shCh {c : Ch} (h : ChOk c) : SeqAt.shaped (Mw.chD c) = true := by
  obtain ⟨a, b, d⟩ := fine_ch h
  obtain ⟨s1, s2, s3⟩ := fine_show a
  show (PyData.canLay0 (Mw.chD c) && decide (PyData.depth (Mw.chD c) ≤ 64)) = true
  rw [Bool.and_eq_true]
  exact ⟨s2, decide_eq_true (by omega)⟩
theorem sh_eqv {d : PyData} (h : SeqAt.shaped d = true) : PyData.eqv d d = true := by
  have h' : (PyData.canLay0 d && decide (PyData.depth d ≤ 64)) = true := h
  rw [Bool.and_eq_true] at h'
  exact PySem.SeqAt.eqv_refl d h'.1
def fJoi : AF := fun ws σ Q _ => ∃ zs cs A B, ws = [.d (ledD (ledP cs A)), .d (ledD (ledP cs B))] ∧ Wr zs cs ∧ (∀ z ∈ zs, Wrd z) ∧ cs.length ≤ 16 ∧ ClP cs A ∧ ClP cs B ∧ Q (.d (ledD (ledP cs (A ++ B)))) σ
instance : MoF fJoi := ⟨fun k ⟨z, c, A, B, h1, h2, h3, h4, h5, h6, q⟩ => ⟨z, c, A, B, h1, h2, h3, h4, h5, h6, k _ _ q⟩⟩
theorem joi_ok : ∀ ws σ Q X, fJoi ws σ Q X → aFn 10 (p8Joi fBrn fKno fBy fEin) ws σ (fun w σ' => Told σ.length σ σ' w Q) X := by
  rintro ws σ Q X ⟨zs, cs, A, B, rfl, wr, wrd, c16, cA, cB, q⟩
  generalize hQ : (fun w σ' => Told σ.length σ σ' w Q) = Q'
  have key : ∀ {j : Sto}, Q' (.d (ledD (ledP cs (A ++ B)))) (σ ++ j) := fun {j} => by rw [← hQ]; exact told_d q
  clear hQ q
  have nd := names_nodup wr
  have cok := ch_ok wr wrd (by omega : cs.length ≤ 17)
  have cAB := cA.app cB
  have lU := ledP_len cs (A ++ B)
  have led := ledP_led wr cAB
  and_intros
  refine ⟨cs, A, B, rfl, nd, by omega, ?_⟩
  and_intros
  refine ⟨ledP cs B, rfl, Nat.le_trans (ledP_len cs B) (by omega), ledP_nd nd B, ?_⟩
  and_intros
  refine ⟨zs, cs, _, rfl, wr, by omega, led, fun c hc => Nat.le_trans (cok c (ledP_mem hc)).bl (by decide), ?_⟩
  and_intros
  refine r_en ?_
  and_intros
  refine ⟨_, rfl, ?_⟩
  show aLoop _ _ _ _ (enL ((ledP cs (A ++ B)).map Mw.chD)) _ _
  refine loop_run (fun i e s => ∃ v5 v6 v7 v8 v9, e = [some (.d (ledD (ledP cs A))), some (.d (ledD (ledP cs B))), some (.d (ledD (ledP cs (A ++ B)))), some (.ref σ.length), some (.d (kgD (kg [] (ledP cs (A ++ B))))), v5, v6, v7, v8, v9] ∧ s = σ ++ [.dct true (kv1 (ledP cs B))]) ⟨none, none, none, none, none, rfl, rfl⟩ (fun i w e s Rest hw h k => ?_) fun e s h => ?_
  · obtain ⟨v5, v6, v7, v8, v9, rfl, rfl⟩ := h
    rw [enL_get, List.getElem?_map] at hw
    obtain ⟨d, hd, rfl⟩ := Option.map_eq_some_iff.mp hw
    obtain ⟨c, hc, rfl⟩ := Option.map_eq_some_iff.mp hd
    have hcU := List.mem_of_getElem? hc
    have hcc := ledP_mem hcU
    have hi := (List.getElem?_eq_some_iff.mp hc).1
    refine ⟨True.intro, ?_⟩
    refine r_agT2 ?_
    and_intros
    refine r_ixT (x := nmD c.nm) at0 ?_
    and_intros
    refine r_get2 ?_
    and_intros
    refine ⟨by simp only [prsOf, px_j0]; rfl, ?_⟩
    and_intros
    refine r_gt px_j0 rfl ?_
    have eg : (dget (kv1 (ledP cs B)) (nmD c.nm)).getD (.d (Mw.chD c)) = .d (Mw.chD c) := by
      rw [kv1_get]
      cases hf : findC (ledP cs B) c.nm with
      | none => rfl
      | some d =>
        have hdm : d.nm ∈ names (ledP cs B) := List.mem_map.mpr ⟨d, List.mem_of_find?_eq_some hf, rfl⟩
        have hdn : d.nm = c.nm := of_decide_eq_true (List.find?_some (p := fun x : Ch => decide (x.nm = c.nm)) hf)
        rw [hdn] at hdm
        rw [sub_nd nd (fun x hx => ledP_mem hx) hdm, find_own nd hcc] at hf
        cases hf
        rfl
    rw [eg]
    and_intros
    refine ⟨⟨shCh (cok c hcc), shCh (cok c hcc)⟩, ?_⟩
    show tstB _ (.d (.bool (!PyData.eqv (Mw.chD c) (Mw.chD c)))) _
    rw [sh_eqv (shCh (cok c hcc)), Bool.not_true]
    and_intros
    rw [cut_take, ← List.map_take]
    refine r_ixT (x := .str c.nm.2) rfl ?_
    and_intros
    refine ⟨(ledP cs (A ++ B)).take i, c.nm.2, rfl, by rw [List.length_take]; omega, ?_⟩
    and_intros
    with_reducible refine r_allG ?_
    and_intros
    rw [mapW]
    have hl : look (kg [] (ledP cs (A ++ B))) c.nm = look (kg [] (ledP cs (A ++ B))) c.nm := rfl
    refine @ag_fm Nm _ _ _ _ _ _ _ _ _ _ _ true ((names ((ledP cs (A ++ B)).take i)).filter fun n => decide (n.2 = c.nm.2)) (fun n => .d (nmD n)) (fun _ => true) ?_ ?_ ?_
    · exact True.intro
    · intro n hn Y hy
      and_intros
      refine ⟨rfl, ?_⟩
      and_intros
      refine r_ixD (kvs := kvK (kg [] (ledP cs (A ++ B)))) (by show some _ = some _; congr 1; rw [List.map_map]; rfl) (kc_nm (f := fun p : Nm × List Nm => p.1) (g := fun p => W.d (yesD p.2)) _ c.nm) (by
        rw [get_K, look_some (by rw [kg_names]; simp [names]; exact ⟨c, hcU, rfl⟩)]) ?_
      refine r_inD (prs_yes _ _) (kc_Y _ _) ?_
      rw [get_Y]
      obtain ⟨h1, h2⟩ := List.mem_filter.mp hn
      obtain ⟨d, hd, rfl⟩ := List.mem_map.mp h1
      have hdU := List.mem_of_mem_take hd
      have so := ledP_so nd (A ++ B)
      have ndU := ledP_nd nd (A ++ B)
      have edr : (ledP cs (A ++ B)).drop i = c :: (ledP cs (A ++ B)).drop (i + 1) := by
        rw [List.drop_eq_getElem_cons hi]
        rw [List.getElem?_eq_getElem hi] at hc
        cases hc
        rfl
      have en : names (ledP cs (A ++ B)) = names ((ledP cs (A ++ B)).take i) ++ c.nm :: names ((ledP cs (A ++ B)).drop (i + 1)) := by
        rw [← List.map_cons (f := Ch.nm), ← edr, ← List.map_append, List.take_append_drop]
      rw [en] at so ndU
      have le : leN d.nm c.nm = true := (List.pairwise_append.mp so).2.2 _ h1 _ (by simp)
      have ne : d.nm ≠ c.nm := fun z => (List.nodup_append.mp ndU).2.2 _ h1 _ (List.mem_cons_self ..) z
      have lt := le_lt le (of_decide_eq_true h2) ne
      have hk := br_known wr c hcc d (ledP_mem hdU) (of_decide_eq_true h2).symm lt
      rw [if_pos ((kg_kn wr led _ [] (List.append_nil _).symm c hcU d.nm).mpr hk)]
      exact ⟨_, rfl, rfl, hy⟩
    · rw [show (if true = true then ((names ((ledP cs (A ++ B)).take i)).filter fun n => decide (n.2 = c.nm.2)).all (fun _ => true) else _) = true by simp]
      and_intros
      exact k _ _ ⟨_, _, _, _, _, rfl, rfl⟩
  · obtain ⟨v5, v6, v7, v8, v9, rfl, rfl⟩ := h
    refine ⟨True.intro, ?_⟩
    and_intros
    exact key
end Lw

set_option maxHeartbeats 4000000
/-! MwI1: t.index(x), l.remove(x), by data. -/
namespace Mw
open PySem PySem.Spec PyProof.Rows L2
section
variable {X : Cx} {K : PySem.W.Frag}
/-- the first place of an equal one -/
def Fst (ds : List PyData) (d : PyData) (j : Nat) : Prop := (∃ z, ds[j]? = some z ∧ PyData.eqv z d = true) ∧ ∀ (m : Nat) (z' : PyData), m < j → ds[m]? = some z' → PyData.eqv z' d = false
def rIdxT (K : PySem.W.Frag) : V → List V → Hp → VK → Prop := fun x xs H Q => ∃ (a : Addr) (y : V) (d : PyData) (ds : List PyData) (j : Nat), x = V.ref a ∧ xs = [y] ∧ Dp K H (V.ref a) (.tuple ds) ∧ Dp K H y d ∧ SeqAt.shaped (.tuple ds) = true ∧ SeqAt.shaped d = true ∧ Fst ds d j ∧ Q (.int (j : Nat)) H
theorem at_read {s : Shared} {its : List Value} {ds : List PyData} (hmap : its.map (SeqAt.readOf s.heap) = ds) : ∀ (m : Nat) (hm : m < its.toArray.size) (z : PyData), ds[m]? = some z → SeqAt.readOf s.heap its.toArray[m] = z := fun m hm z hz => by
  have hml : m < its.length := by simpa using hm
  rw [← hmap, List.getElem?_map, List.getElem?_eq_getElem hml] at hz
  simpa using Option.some.inj (show some (SeqAt.readOf s.heap its[m]) = some z from hz)
theorem mt_idxT (hK : X.K = K) (hu : X.A.units + 65 < cLine) : MtR X "tuple.index" (rIdxT K) := by
  subst hK
  intro pins s σ H x xs v us Q I rx rxs h
  obtain ⟨a, y, d, ds, j, rfl, rfl, hl, hy, sl, sd, ⟨⟨z, hz, hzj⟩, hno⟩, q⟩ := h
  cases rx
  obtain ⟨uy, rfl, ry⟩ := rxs.one
  obtain ⟨bs, r1⟩ := Dp.reads I d y uy hy ry
  have hxs : PyData.canLayAll0 ds = true := SeqAt.canLay_of_shaped sl
  have hroom : X.A.units + 1 + min (PyData.depthAll ds) d.depth < cLine := room_in_shaped sd hu
  cases hl with
  | tup hs ha =>
    obtain ⟨its, rv, pl, hlen⟩ := I.tuple hs
    obtain ⟨⟨cls, dd, dt, sls⟩, ho, hc, n, hdt⟩ := pl
    simp only at hc hdt
    subst hc hdt
    obtain ⟨as, h4⟩ := Dp.readsAll I ds _ its ha rv
    have hn : its.length = ds.length := SeqAt.ReadsAll.length ds its as h4
    have hmap : its.map (SeqAt.readOf s.heap) = ds := SeqAt.readsAll_map ds its as hxs h4
    have hjl : j < its.length := by have := (List.getElem?_eq_some_iff.mp hz).1; omega
    have hj : j < its.toArray.size := by simpa using hjl
    refine call_meets PySem.F.slot_tuple_index ⟨_, ho, rfl⟩ PySem.F.entry_tuple_index (PySem.F.args_tuple_index_2 _ _)
      (TI.tuple_indexAt a its.toArray n dd sls uy (fun u => PyData.eqv (SeqAt.readOf s.heap u) d) j hj ?_ ?_) ⟨ho, SeqAt.items_eqAt (vs := its.toArray) (show ReadsAll s.heap its.toArray.toList ds as from h4) r1 hxs (SeqAt.canLay_of_shaped sd) hroom, ?_⟩
    · show PyData.eqv (SeqAt.readOf s.heap its.toArray[j]) d = true
      rw [at_read hmap j hj z hz]
      exact hzj
    · intro m hm hmj
      have hz' : ds[m]? = some ds[m] := List.getElem?_eq_getElem (by omega)
      show PyData.eqv (SeqAt.readOf s.heap its.toArray[m]) d = false
      rw [at_read hmap m hm _ hz']
      exact hno m _ hmj hz'
    · exact ⟨.int (j : Nat), H, I.tok _, ⟨_, rfl⟩, q⟩
def rRemD (K : PySem.W.Frag) : V → List V → Hp → VK → Prop := fun x xs H Q => ∃ (a : Addr) (ys : List V) (y : V) (d : PyData) (ds : List PyData) (j : Nat), x = V.ref a ∧ xs = [y] ∧ H a = some (.lst ys) ∧ DpAll K H ys ds ∧ Dp K H y d ∧ SeqAt.shaped (.list ds) = true ∧ SeqAt.shaped d = true ∧ Fst ds d j ∧ Q .non (upd H a (.lst (ys.eraseIdx j)))
theorem mt_remD (hK : X.K = K) (hu : X.A.units + 65 < cLine) : MtR X "list.remove" (rRemD K) := by
  subst hK
  intro pins s σ H x xs v us Q I rx rxs h
  obtain ⟨a, ys, y, d, ds, j, rfl, rfl, hH, ha, hy, sl, sd, ⟨⟨z, hz, hzj⟩, hno⟩, q⟩ := h
  cases rx
  obtain ⟨uy, rfl, ry⟩ := rxs.one
  obtain ⟨bs, r1⟩ := Dp.reads I d y uy hy ry
  have hxs : PyData.canLayAll0 ds = true := SeqAt.canLay_of_shaped sl
  have hroom : X.A.units + 1 + min (PyData.depthAll ds) d.depth < cLine := room_in_shaped sd hu
  obtain ⟨zz, its, n, r, hl, e⟩ := I.lstM hH
  obtain ⟨as, h4⟩ := Dp.readsAll I ds _ its ha r
  have hn : its.length = ds.length := SeqAt.ReadsAll.length ds its as h4
  have hmap : its.map (SeqAt.readOf s.heap) = ds := SeqAt.readsAll_map ds its as hxs h4
  have hjl : j < its.length := by have := (List.getElem?_eq_some_iff.mp hz).1; omega
  have hj : j < its.toArray.size := by simpa using hjl
  refine call_meets PySem.F.slot_list_remove ⟨_, e, rfl⟩ PySem.F.entry_list_remove (PySem.F.args_list_remove_2 _ _)
    (SeqAt.list_removeAt a its.toArray n none #[] uy (fun u => PyData.eqv (SeqAt.readOf s.heap u) d) j hj ?_ ?_ (by rw [List.size_toArray]; omega)) ⟨e, SeqAt.items_eqAt (vs := its.toArray) (show ReadsAll s.heap its.toArray.toList ds as from h4) r1 hxs (SeqAt.canLay_of_shaped sd) hroom, ?_⟩
  · show PyData.eqv (SeqAt.readOf s.heap its.toArray[j]) d = true
    rw [at_read hmap j hj z hz]
    exact hzj
  · intro m hm hmj
    have hz' : ds[m]? = some ds[m] := List.getElem?_eq_getElem (by omega)
    show PyData.eqv (SeqAt.readOf s.heap its.toArray[m]) d = false
    rw [at_read hmap m hm _ hz']
    exact hno m _ hmj hz'
  · refine ⟨.non, _, I.lset (its' := its.eraseIdx j) (t' := s.toks) hH e ?_ (r.eraseIdx j) ?_, rfl, q⟩
    · exact List.eraseIdxIfInBounds_toArray ..
    · rw [List.length_eraseIdx]; split <;> omega
/-- l[i:j] = another list -/
def sSlSet (td : TE) (tl th : TO) (tv : TE) : TS := fun D σ H => tv σ H fun v H1 => td σ H1 fun x H2 => tl σ H2 fun l H3 => th σ H3 fun u H4 => ∃ (a b : Addr) (xs ys : List V) (i j : Int), x = .ref a ∧ v = .ref b ∧ l = some i ∧ u = some j ∧ H4 a = some (.lst xs) ∧ H4 b = some (.lst ys) ∧ a ≠ b ∧ 0 ≤ i ∧ i ≤ j ∧ j ≤ xs.length ∧
  xs.length + ys.length ≤ sizeLine ∧ D.nx σ (upd H4 a (.lst (xs.take i.toNat ++ ys ++ xs.drop j.toNat)))
theorem ps_slset {o value : Expr} {lo hi : Option Expr} {td tv : TE} {tl th : TO} {p2 pos' pos : Pos} (ho : PE X o td) (hl : PO X lo tl) (hh : PO X hi th) (hv : PE X value tv) (hs : swapsWith value (some (.Subscript o (.Slice lo hi none p2) pos')) pos.line X.env = pure false) :
    PS X (.Assign [.Subscript o (.Slice lo hi none p2) pos'] value pos) (sSlSet td tl th tv) := by
  refine ⟨fun pins s σ H D I h => ?_⟩
  refine wpAny_Assign_Subscript (thn (hv.run pins s σ H _ I h) fun r s1 ⟨v, H1, I1, rv, q1⟩ => thn (ho.run pins s1 σ H1 _ I1 q1) fun u s2 ⟨x, H2, I2, rx, q2⟩ =>
    wpAny_Slice (thn (hl.run pins s2 σ H2 _ I2 q2) fun vl s3 ⟨l, H3, I3, pl, q3⟩ => thn (hh.run pins s3 σ H3 _ I3 q3) fun vu s4 ⟨w, H4, I4, pu, a, b, xs, ys, i, j, ex, ev, ei, ew, ha, hb, hne, h0, hij, hj, hz, q4⟩ => ?_)) hs
  subst ex ev ei ew
  obtain rfl : u = Value.ref a := rx
  obtain rfl : r = Value.ref b := rv
  rw [evalPart_none]
  refine wpAny_pure ?_
  have I5 : Inv X pins σ H4 { s4 with heap := s4.heap.push { cls := .type "slice", data := .fields #[vl, vu, .none] } } := I4.kept (t' := s4.toks) fun c ob q => Heap.get?_push_of_some _ q
  cases pl with
  | int i t =>
    cases pu with
    | int j t' => exact set_slice I5 ha hb hne (Heap.IsSliceOf.new ..) ⟨t, rfl⟩ ⟨t', rfl⟩ h0 hij hj hz fun s6 I6 => ⟨σ, _, I6, q4⟩
end
end Mw

/-! MwU: tuple(d.values()), the keys of d tuples. -/
namespace Mw
open PySem PySem.Spec PyProof.Rows L2 PySem.W
section
variable {P : Program} {w : World} {A : Around} {E : Value → Shared → Prop} {s : Shared} {r d : Addr} {n : Nat} {Pv : Nat → Value → Prop} {OK : Heap → Prop}
theorem collect_src {T : String} {R : List Value → Shared → Prop} (K : KdlSrc P w T r d n Pv OK) (hh : A.handled = none) (hok : OK s.heap) (hn : n ≤ sizeLine)
    (h : ∀ (h' : Heap) (tk : Tok) (acc : Array Value), (∀ b o, s.heap.get? b = some o → h'.get? b = some o) → ItemsOf Pv acc n → R acc.toList { s with heap := h', toks := tk }) : wpAny (model P w) A (collect (.ref r)) R E s := by
  have hlt := K.there _ hok
  unfold collect
  refine wpAny_bind (wpAny_runValue (codeAny_builtin F.entry_proto_collect ?_))
  rw [Around.under_plainId F.plain_proto_collect _]
  show wpAny _ A.in1 (newList [] >>= fun l => again (.builtin "list.__iadd__" ⟨[l, .ref r], []⟩)) _ _ s
  refine wpAny_bind (wpAny_newObj_type ?_)
  refine wpAny_pure ⟨plainId_quiet F.plain_list_iadd _, codeAny_builtin F.entry_list_iadd ?_⟩
  rw [Around.under_plainId F.plain_list_iadd _]
  have hS : (s.heap.push { cls := .type "list", data := .seq ([] : List Value).toArray }).get? s.heap.objs.size = some { cls := .type "list", data := .seq #[] } := Heap.get?_push_size _ rfl
  have key := kdl_extend (A := A) (s := { s with heap := s.heap.push { cls := .type "list", data := .seq ([] : List Value).toArray } }) (R := fun rr s' => rr = .ok (.ret (.ref s.heap.objs.size)) ∧ ∃ acc c, s'.heap.get? s.heap.objs.size = some { cls := .type "list", dict := none, data := .seq acc c, slots := #[] } ∧ R acc.toList s') K hh (K.keep _ _ hok fun b _ o e => Heap.get?_push_of_some _ e) s.heap.objs.size (Nat.ne_of_gt hlt.1) (Nat.ne_of_gt hlt.2) (.ref s.heap.objs.size) 0 hS (fun h' tk acc c hk hS' hacc => ⟨rfl, acc, c, hS', h h' tk acc (fun b o e => hk b o (Nat.ne_of_lt (Heap.lt_size e)) (Heap.get?_push_of_some _ e)) hacc⟩) hn
  refine wpAny_mono key (fun f s' z => ?_) (fun e s' z => by obtain ⟨z, _⟩ := z; cases z)
  cases f with
  | done f =>
    obtain ⟨z, acc, c, h1, h2⟩ := (show (Except.ok f : Result) = .ok (.ret (.ref s.heap.objs.size)) ∧ _ from z)
    cases z
    show wpAny _ A (load s.heap.objs.size >>= _) _ _ _
    exact wpAny_bind (wpAny_load h1 (wpAny_pure h2))
  | again c' =>
    refine ⟨z.1, codeAny_mono z.2 fun rr s'' hr => ?_⟩
    obtain ⟨rfl, acc, c, h1, h2⟩ := hr
    show wpAny _ A (load s.heap.objs.size >>= _) _ _ _
    exact wpAny_bind (wpAny_load h1 (wpAny_pure h2))
theorem call_tuple_src {Q : Value → Shared → Prop} (K : KdlSrc P w "dict_values" r d n Pv OK) (hh : A.handled = none) (hok : OK s.heap) (hn : n ≤ sizeLine)
    (h : ∀ (h' : Heap) (tk : Tok) (acc : Array Value), (∀ b o, s.heap.get? b = some o → h'.get? b = some o) → ItemsOf Pv acc n → Q (.ref h'.objs.size) { s with heap := h'.push { cls := .type "tuple", data := .seq acc }, toks := tk }) :
    wpAny (model P w) A (call (.type "tuple") [.ref r]) Q E s := by
  refine callType_codes (Q₁ := fun obj s₁ => s₁.TypeIs obj "tuple" ∧ Q obj s₁) F.called_tuple (F.typeCall_tuple_1 _) F.entry_object_init ?_ fun obj s₁ h₁ =>
    ⟨h₁.1, F.args_object_init_2 obj _, object_init_meets F.called_tuple.init.lookup F.called_tuple.made (by decide) P w A.in1 _ s₁ ⟨h₁.1, rfl, h₁.2⟩⟩
  refine codeAny_of_tree ?_
  show wpAny _ A.in1.in1 (do checkBuiltinCall "tuple.__new__" ⟨[.type "tuple", .ref r], []⟩; again (.builtin "tuple.__new__" ⟨[.type "tuple", .ref r], []⟩)) _ _ s
  refine wpAny_bind (wpAny_of_eq (F.newCall_tuple_1 _) (wpAny_pure ⟨plainId_quiet F.plain_tuple_new _, codeAny_builtin F.entry_tuple_new ?_⟩))
  rw [Around.under_plainId F.plain_tuple_new _]
  have hsub := sub_tuple_self
  have hinit := init_tuple_lookup
  have hmh := madeHere_tuple
  have hTI : s.TypeIs (.ref r) "dict_values" := K.type s hok
  wp_walk using wpAny_typeOf hTI, collect_src (A := A.in1.in1) K hh hok hn
  intro h' tk acc kp hacc
  show wpAny _ _ (Builtin.Tuple.tupleExact acc.toList.toArray >>= fun v => ret v) _ _ _
  unfold Builtin.Tuple.tupleExact
  refine wpAny_bind (wpAny_newObj_type ?_ (by show acc.toList.toArray.size ≤ sizeLine; simp only [Array.toArray_toList]; rw [hacc.1]; exact hn))
  refine wpAny_pure ?_
  have e : acc.toList.toArray = acc := by simp
  rw [e]
  exact ⟨⟨_, Heap.get?_push_size _ rfl, rfl⟩, h h' tk acc kp hacc⟩
end
section
variable {X : Cx} {o : Expr} {p pos apos mpos : Pos} {td : TE}
theorem kt_vals {H : Hp} : ∀ {kvs : List (List Key × V)} {xs : List (List Key × Addr × Value)}, KT H kvs xs → Vals (kvs.map (·.2)) (xs.map fun x => x.2.2)
  | _, _, .nil => .nil
  | _, _, .cons h t => .cons h.2.2 (kt_vals t)
def tTupVals (td : TE) : TE := fun σ H Q => td σ H fun x H1 => ∃ (a : Addr) (kvs : List (List Key × V)), x = .ref a ∧ H1 a = some (.dT kvs) ∧ ∀ q, H1 q = none → Q (.ref q) (upd H1 q (.tup (kvs.map (·.2))))
theorem pe_tupVals (hc : X.calm = true) (hg : Gl X "tuple") (hm : X.mg "tuple" = none) (hd : PE X o td) (hbase : attributeBase o "values" X.env (eval o X.env) = eval o X.env := by rfl) (hline : (apos.endLine == mpos.line) = true := by rfl)
    (hse : starEach [Expr.Call (.Attribute o "values" apos) [] [] mpos] X.env = [(false, eval (Expr.Call (.Attribute o "values" apos) [] [] mpos) X.env)] := by rfl) :
    PE X (.Call (.Name "tuple" p) [.Call (.Attribute o "values" apos) [] [] mpos] [] pos) (tTupVals td) := by
  refine ⟨fun pins s σ H Q I h => ?_⟩
  refine wpAny_Call_Name_kw (ld_blt I hg hm (show bootBuiltins "tuple" = some (.type "tuple") by decide +kernel) ?_)
  refine PyProof.Rows.callWith_type1 ?_ hse rfl
  rw [hse]
  show wpAny _ _ (spliced ((false, eval (Expr.Call (.Attribute o "values" apos) [] [] mpos) X.env) :: backTo pos (starEach [] X.env))) _ _ s
  refine Calls.spliced_cons (wpAny_Call_method0_late hbase hline (thn (hd.run pins s σ H _ I h) fun v s1 ⟨x, H1, I1, r1, a, kvs, ex, ha, q⟩ => ?_))
  subst ex
  obtain rfl : v = Value.ref a := r1
  obtain ⟨hz, hsys, xs, rel, ob, es, ep, ho, hx, hdat, hes, his, hnd⟩ := dt_of I1.hok ha
  have raw : s1.heap.DictRaw a es ep := ⟨ob, ho, hx, hdat⟩
  refine ⟨"dict", "dict.values", F.plainAttrs_dict, F.slot_dict_values, F.type_dict_values, ⟨ob, ho, hx.1⟩, fun b e => ?_, Calls.callWith_builtin rfl (PySem.evalArgs_none ?_)⟩
  · cases e
    exact ⟨ob, ho, hx.2.1⟩
  refine call_meetsIn F.slot_dict_values ⟨ob, ho, hx.1⟩ F.entry_dict_values (F.args_dict_values_1 _) (meets_dict_values_raw a hsys) ⟨⟨es, ep, raw⟩, ?_⟩
  refine Calls.spliced_nil ?_
  have k1 : ∀ b u, s1.heap.get? b = some u → (s1.heap.push { cls := .type "dict_values", data := .fields #[.ref a] }).get? b = some u := fun b u e => Heap.get?_push_of_some _ e
  have hl : xs.length = es.size := by
    have := congrArg List.length hes
    simpa using this.symm
  have hlk : kvs.length = xs.length := by
    have := (kt_vals rel).length
    simpa using this
  refine call_tuple_src (KdlSrc.rawValues (r := s1.heap.objs.size) (d := a) (es := es) (ep := ep)) (I.ok.hd hc) ⟨⟨_, Heap.get?_push_size _ rfl, rfl, rfl⟩, raw.push _⟩ (by omega) fun h' tk acc kp hacc => ?_
  have I2 : Inv X pins σ H1 { s1 with heap := h', toks := tk } := I1.kept (t' := tk) fun b u e => kp b u (k1 b u e)
  have hv : Vals (kvs.map (·.2)) acc.toList := by
    have e : acc.toList = xs.map fun x => x.2.2 := by
      refine List.ext_getElem? fun i => ?_
      by_cases hi : i < acc.size
      · obtain ⟨hi2, e1⟩ := hacc.2 i acc[i] (Array.getElem?_eq_getElem hi)
        have e2 : es.toList[i]? = some es[i] := by rw [Array.getElem?_toList, Array.getElem?_eq_getElem hi2]
        rw [hes, List.getElem?_map] at e2
        obtain ⟨x, hx1, hx2⟩ := Option.map_eq_some_iff.mp e2
        rw [Array.getElem?_toList, Array.getElem?_eq_getElem hi, List.getElem?_map, hx1, e1, ← hx2]
        rfl
      · have e3 : xs.length ≤ i := by rw [hl, ← hacc.1]; omega
        rw [List.getElem?_eq_none (by simpa using hi), List.getElem?_eq_none (by simpa using e3)]
    rw [e]
    exact kt_vals rel
  refine ⟨.ref _, _, I2.laid (t' := tk) (o := .tup (kvs.map (·.2))) (fun b ob z => Heap.get?_push_of_some _ z) (Nat.le_refl _) ?_, rfl, q _ (I2.hok.fresh (Nat.le_refl _))⟩
  exact ⟨by rw [List.length_map]; exact hz, acc.toList, hv, by rw [Array.toArray_toList]; exact IsTup.new _ _⟩
end
end Mw

set_option maxHeartbeats 4000000
/-! AwI: l.remove(x), is True, min of two numbers, tuple(d.values()). -/
namespace Aw
open PySem PySem.Spec PyProof.Rows L2 Mw
variable {Z : Zx} {X : Cx} {E : L2.St → XK} {ta : TE} {fa : AE}
/-! ### remove -/
def remW : W → List W → Sto → QK → Prop := fun a ws σ Q => ∃ j ys ds d i, a = .ref j ∧ ws = [.d d] ∧ σ[j]? = some (.lst ys) ∧ pures ys = some ds ∧ SeqAt.shaped (.list ds) = true ∧ SeqAt.shaped d = true ∧ Fst ds d i ∧ Q (.d .none) (σ.set j (.lst (ys.eraseIdx i)))
instance sim_rem : SimM Z (rRemD Z.K) remW := ⟨fun {ρ σ H x a xs ws Qa Q} rl va vs q kq => by
  obtain ⟨j, ys, ds, d, i, rfl, rfl, hc, hp, h1, h2, hf, q⟩ := q
  obtain ⟨ad, ha, rfl⟩ := va
  obtain ⟨v, rfl, vw⟩ := wrs1 vs
  obtain ⟨zs, e1, e2⟩ := rl.cell j ad _ ha hc
  have gp : Go Z.T ρ H ρ (upd H ad (.lst (zs.eraseIdx i))) := Go.put (List.mem_of_getElem? ha) e1
  have lay : PyData.canLayAll0 ds = true := by
    have := sh_lay h1
    simpa [PyData.canLay0] using this
  refine ⟨ad, zs, v, d, ds, i, rfl, rfl, e1, (pures_rp e2 hp).dp lay, (Rp.tp vw).dp (sh_lay h2), h1, h2, hf, ?_⟩
  exact kq.d gp (rl.put (c := .lst (ys.eraseIdx i)) ha ⟨_, upd_same, gp.wrs rl (paired_er i e2)⟩) Rp.non q⟩
instance : MoM remW := ⟨fun k ⟨j, ys, ds, d, i, h1, h2, h3, h4, h5, h6, h7, q⟩ => ⟨j, ys, ds, d, i, h1, h2, h3, h4, h5, h6, h7, k _ _ q⟩⟩
theorem r_rem {σ : Sto} {j i : Nat} {ys : List W} {ds : List PyData} {d : PyData} {Q : QK} (hc : σ[j]? = some (.lst ys)) (hp : pures ys = some ds) (h1 : SeqAt.shaped (.list ds) = true) (h2 : SeqAt.shaped d = true) (hf : Fst ds d i) (h : Q (.d .none) (σ.set j (.lst (ys.eraseIdx i)))) :
    remW (.ref j) [.d d] σ Q := ⟨j, ys, ds, d, i, rfl, rfl, hc, hp, h1, h2, hf, h⟩
/-! ### is True, is not True -/
def tIsB (b : Bool) (ta : TE) : TE := fun σ H Q => ta σ H fun x H1 => ∃ c, x = .bl c ∧ Q (.bl (c == b)) H1
def tNoB (b : Bool) (ta : TE) : TE := fun σ H Q => ta σ H fun x H1 => ∃ c, x = .bl c ∧ Q (.bl (c != b)) H1
theorem pc_isB {a : Expr} {b : Bool} {j pos'} (ha : PE X a ta) : PC X .Is a (.Constant (.bool b) j pos') (tIsB b ta) := by
  refine ⟨fun pins s σ H Q I h => ?_⟩
  refine thn (ha.run pins s σ H _ I h) fun v s1 ⟨x, H1, I1, r1, c, ex, q1⟩ => ?_
  subst ex
  cases r1
  exact Constant_bool (is_bool ⟨.bl _, H1, I1, rfl, q1⟩)
theorem pc_noB {a : Expr} {b : Bool} {j pos'} (ha : PE X a ta) : PC X .IsNot a (.Constant (.bool b) j pos') (tNoB b ta) := by
  refine ⟨fun pins s σ H Q I h => ?_⟩
  refine thn (ha.run pins s σ H _ I h) fun v s1 ⟨x, H1, I1, r1, c, ex, q1⟩ => ?_
  subst ex
  cases r1
  exact Constant_bool (isnot_bool ⟨.bl _, H1, I1, rfl, q1⟩)
def aIsB (b : Bool) (fa : AE) : AE := fun e σ Q X => fa e σ (fun x σ1 => ∃ c, x = .d (.bool c) ∧ Q (.d (.bool (c == b))) σ1) X
def aNoB (b : Bool) (fa : AE) : AE := fun e σ Q X => fa e σ (fun x σ1 => ∃ c, x = .d (.bool c) ∧ Q (.d (.bool (c != b))) σ1) X
instance sim_isB {b : Bool} [ia : SimE Z E ta fa] : SimE Z E (tIsB b ta) (aIsB b fa) := ⟨fun r er h k kx =>
  ia.sim r er h (fun _ _ _ _ _ g1 r1 v1 ⟨c, e, h1⟩ => by subst e; exact ⟨c, WR.bool v1, k.d g1 r1 (Rp.bl _) h1⟩) kx⟩
instance sim_noB {b : Bool} [ia : SimE Z E ta fa] : SimE Z E (tNoB b ta) (aNoB b fa) := ⟨fun r er h k kx =>
  ia.sim r er h (fun _ _ _ _ _ g1 r1 v1 ⟨c, e, h1⟩ => by subst e; exact ⟨c, WR.bool v1, k.d g1 r1 (Rp.bl _) h1⟩) kx⟩
instance {b : Bool} [MoE fa] : MoE (aIsB b fa) := ⟨fun k q => MoE.mo (f := fa) (fun _ _ ⟨c, e, q⟩ => ⟨c, e, k _ _ q⟩) q⟩
instance {b : Bool} [MoE fa] : MoE (aNoB b fa) := ⟨fun k q => MoE.mo (f := fa) (fun _ _ ⟨c, e, q⟩ => ⟨c, e, k _ _ q⟩) q⟩
/-! ### min of two -/
def rMin2 : List V → Hp → VK → Prop := fun xs H Q => ∃ i j, xs = [.int i, .int j] ∧ Q (.int (if j < i then j else i)) H
theorem call_min2A (hc : X.calm = true) : CallR X (.builtin "min") rMin2 := call_min2 hc
theorem boot_minA : bootBuiltins "min" = some (.builtin "min") := by first | rfl | decide +kernel
def min2W : List W → Sto → QK → Prop := fun ws σ Q => ∃ i j : Int, ws = [.d (.int i), .d (.int j)] ∧ Q (.d (.int (if j < i then j else i))) σ
instance sim_min2 : SimC Z rMin2 min2W := ⟨fun {ρ σ H xs ws Qa Q} rl v q kq => by
  obtain ⟨i, j, rfl, q⟩ := q
  cases v with
  | cons v1 v2 =>
    cases v2 with
    | cons v2 v3 =>
      cases v3
      rw [WR.int v1, WR.int v2]
      exact ⟨i, j, rfl, kq.d .refl rl (Rp.int _) q⟩⟩
instance : MoC min2W := ⟨fun k ⟨i, j, e, q⟩ => ⟨i, j, e, k _ _ q⟩⟩
/-! ### tuple(d.values()) -/
def aTupVals (fa : AE) : AE := fun e σ Q X => fa e σ (fun x σ1 => ∃ i kvs ds, x = .ref i ∧ σ1[i]? = some (.dct true kvs) ∧ pures (kvs.map (·.2)) = some ds ∧ Q (.d (.tuple ds)) σ1) X
theorem prs_vals {κ : Type} {f : κ → PyData} {K : PySem.W.Frag} {ρ : List Addr} {H : Hp} : ∀ {hk : List (κ × V)} {kvs : List (PyData × W)}, PRs K ρ H (hk.map fun p => (f p.1, p.2)) kvs → WRs K ρ H (hk.map (·.2)) (kvs.map (·.2))
  | [], _, h => by cases h; exact .nil
  | p :: hk, _, h => by
    cases h with
    | cons h t => exact .cons h.2 (prs_vals t)
instance sim_tupVals [ia : SimE Z E ta fa] : SimE Z E (tTupVals ta) (aTupVals fa) := ⟨fun r er h k kx =>
  ia.sim r er h (fun _ _ _ _ _ g1 r1 v1 ⟨i, kvs, ds, e, hc, hp, q⟩ => by
    subst e
    obtain ⟨a, ha, rfl⟩ := v1
    obtain ⟨hk, e1, e2⟩ := r1.cell i a _ ha hc
    exact ⟨a, hk, rfl, e1, fun p n => (k.go g1).layT r1 n (pures_rp (prs_vals e2) hp) q⟩) kx⟩
instance [MoE fa] : MoE (aTupVals fa) := ⟨fun k q => MoE.mo (f := fa) (fun _ _ ⟨i, kvs, ds, e, hc, hp, q⟩ => ⟨i, kvs, ds, e, hc, hp, k _ _ q⟩) q⟩
end Aw

/-! MwN2: sorted(l), l a list of names. -/
namespace Mw
open PySem PySem.Spec PyProof.Rows L2
section
variable {X : Cx} {K : PySem.W.Frag}
def rSortLN (K : PySem.W.Frag) : List V → Hp → VK → Prop := fun xs H Q => ∃ (l : Addr) (ns : List Nm) (bs : List Addr), xs = [.ref l] ∧ SqL K H l (bs.map V.ref) ∧ Nms H ns bs ∧
  ∀ p bs', H p = none → Nms H (srt ns) bs' → Q (.ref p) (upd H p (.lst (bs'.map V.ref)))
theorem each_of {H : Hp} : ∀ {ns : List Nm} {bs : List Addr}, Nms H ns bs → PySem.W.EachIs (fun v n => ∃ b, v = Value.ref b ∧ NmA H n b) (bs.map Value.ref) ns
  | _, _, .nil => .nil
  | _, _, .cons h t => .cons ⟨_, rfl, h⟩ (each_of t)
theorem vals_refs' : ∀ {bs : List Addr} {us : List Value}, Vals (bs.map V.ref) us → us = bs.map Value.ref
  | [], _, .nil => rfl
  | b :: bs, _, .cons h t => by
    have h' : _ = Value.ref b := h
    rw [h', vals_refs' t]
    rfl
theorem call_sortLN (hK : X.K = K) (hc : X.calm = true) (hu : X.A.units + 16 < cLine) : CallR X (.builtin "sorted") (rSortLN K) := by
  subst hK
  intro pins s σ H xs us Q I r h
  obtain ⟨l, ns, bs, rfl, hl, hn, q⟩ := h
  obtain ⟨u, rfl, rx⟩ := r.one
  cases rx
  obtain ⟨its, rv, pl, hz⟩ := I.list hl
  have ei := vals_refs' rv
  subst ei
  rw [List.length_map] at hz
  refine PySem.Calls.call_function_entry kind_sorted plain_sorted entry_sorted (args_sorted1 _) ?_
  unfold Builtin.«sorted»
  refine wpAny_bind (m := checkCount "sorted" 1 1 _) (wpAny_pure ?_)
  refine wpAny_bind (collect_list (A := X.A.in1) (vs := bs.map Value.ref) pl.isList ?_ (by rw [List.length_map]; exact hz))
  have hlen : (bs.map Value.ref).length ≤ sizeLine := by rw [List.length_map]; exact hz
  have kp : ∀ b ob, s.heap.get? b = some ob → ((s.heap.push (seqObj "list" #[] 0)).update s.heap.objs.size (Obj.mapSeq (· ++ (bs.map Value.ref).toArray))).get? b = some ob := fun b ob e =>
    (Heap.get?_update_other _ _ (Ne.symm (Nat.ne_of_lt (Heap.lt_size e)))).trans (Heap.get?_push_of_some _ e)
  have hsz : s.heap.objs.size ≤ ((s.heap.push (seqObj "list" #[] 0)).update s.heap.objs.size (Obj.mapSeq (· ++ (bs.map Value.ref).toArray))).objs.size := by
    exact Nat.le_of_lt (Heap.lt_size (Heap.get?_update_self (Obj.mapSeq (· ++ (bs.map Value.ref).toArray)) (Heap.get?_push_size (o := seqObj "list" #[] 0) s.heap rfl) rfl))
  generalize ((s.heap.push (seqObj "list" #[] 0)).update s.heap.objs.size (Obj.mapSeq (· ++ (bs.map Value.ref).toArray))) = h' at kp hsz ⊢
  have E0 : PySem.W.EachIs (fun v n => ∃ b, v = Value.ref b ∧ NmA H n b) (bs.map Value.ref) ns := each_of hn
  have I1 : Inv X pins σ H { s with heap := h'.push { cls := .type "list", data := .seq (bs.map Value.ref).toArray }, toks := s.toks } := I.kept fun b ob e => Heap.get?_push_of_some _ (kp b ob e)
  refine wpAny_bind (wpAny_newList ?_ hlen)
  have hob : (h'.push { cls := .type "list", data := .seq (bs.map Value.ref).toArray }).get? h'.objs.size = some (seqObj "list" (bs.map Value.ref).toArray 0) := Heap.get?_push_size _ rfl
  have ld : ∀ b : Nm, (nmD b).depth = 1 := fun b => by simp [nmD, PyData.depth, PyData.depthAll]
  refine wpAny_bind (wpAny_holding (wpAny_mono (PySem.W.list_sort_data (A := X.A.in1) (s := { s with heap := h'.push { cls := .type "list", data := .seq (bs.map Value.ref).toArray }, toks := s.toks }) (enc := nmD) (vs := (bs.map Value.ref)) (bs := ns)
    (R := fun v n => ∃ b, v = Value.ref b ∧ NmA H n b) (Q := fun _ s' => EP X pins σ Q (.ref h'.objs.size) s') (E := fun _ _ => False) hob E0 ?_ (PySem.W.AllAlike.of alike_nm) (PySem.W.Sortable.tuples fun b => ⟨_, _, rfl⟩) (by rw [← E0.length]; exact hlen) (fun b _ => by rw [ld b]; show X.A.units + 1 + 1 + 1 < cLine; omega) ?_)
    (fun _ s' x => wpAny_pure ⟨_, rfl, x⟩) (fun _ _ e => e.elim)))
  · -- the names read off tuples
    refine E0.mono fun v n hv => ?_
    obtain ⟨b, rfl, hb⟩ := hv
    obtain ⟨_, its, rv, ot, hot, hct, nt, hdt2⟩ := (show ObjOk X.prog X.w H _ b (.tup (nmV n)) from I1.hok b _ hb)
    cases rv with
    | cons r1 r2 =>
      cases r2 with
      | cons r3 r4 =>
        cases r4
        obtain ⟨t1, rfl⟩ := r1
        obtain ⟨t2, rfl⟩ := r3
        refine ⟨[] ++ ([] ++ []), .tuple hot hct hdt2 (.cons (.int _ _) (.cons (.str _ _) .nil)), by simp⟩
  · intro out lo eo
    obtain ⟨bz, e1, e2⟩ := each_paired eo
    obtain ⟨ep', hat⟩ := sortedHeap_at (out := out.toArray) hob
    refine ⟨.ref h'.objs.size, _, I.laid (t' := s.toks) (a := h'.objs.size) (o := .lst (bz.map V.ref)) (fun b ob e => ?_) ?_ ?_, rfl, q _ bz (I.hok.fresh ?_) e2⟩
    · have hlt := Heap.lt_size (kp b ob e)
      rw [sortedHeap_old (Nat.ne_of_lt hlt) (by rw [size_push']; exact Nat.lt_succ_of_lt hlt)]
      exact Heap.get?_push_of_some _ (kp b ob e)
    · exact hsz
    · refine ⟨?_, bz.map Value.ref, ep', vals_refs bz, by rw [← e1]; exact hat⟩
      have e3 : out.length = bz.length := by rw [e1, List.length_map]
      rw [List.length_map, ← e3, lo, ← E0.length]
      exact hlen
    · exact hsz
end
end Mw

set_option maxHeartbeats 4000000
/-! AwS: sorted(l), l a list of names. -/
namespace Aw
open PySem PySem.Spec PyProof.Rows L2 Mw
variable {Z : Zx}
def srtLW : List W → Sto → QK → Prop := fun ws σ Q => ∃ w ns, ws = [w] ∧ dat σ w = some (.list (ns.map nmD)) ∧ Q (.d (.list ((srt ns).map nmD))) σ
theorem rpAll_nms {K : PySem.W.Frag} {ρ : List Addr} {H : Hp} : ∀ {ns : List Nm} {xs : List V}, RpAll K ρ H xs (ns.map nmD) → ∃ bs : List Addr, xs = bs.map V.ref ∧ Nms H ns bs
  | [], _, h => by cases h; exact ⟨[], rfl, .nil⟩
  | n :: ns, _, h => by
    cases h with
    | cons h t =>
      obtain ⟨bs, e1, e2⟩ := rpAll_nms t
      obtain ⟨a, xs, e, h1, h2⟩ := (Rp.tp h).tup
      cases h2 with
      | cons v1 v2 =>
        cases v2 with
        | cons v2 v3 =>
          cases v3
          cases v1
          cases v2
          exact ⟨a :: bs, by rw [e, e1]; rfl, .cons h1 e2⟩
instance sim_srtL : SimC Z (rSortLN Z.K) srtLW := ⟨fun {ρ σ H xs ws Qa Q} rl v q kq => by
  obtain ⟨w, ns, rfl, h1, q⟩ := q
  cases v with
  | cons v1 v2 =>
    cases v2
    have td := dat_tp rl v1 h1
    obtain ⟨a, xs, e, hr, hw⟩ : ∃ a xs, _ = V.ref a ∧ Rd H a (.lst xs) ∧ RpAll Z.K ρ H xs (ns.map nmD) := td
    obtain ⟨bs, rfl, hn⟩ := rpAll_nms hw
    exact ⟨a, ns, bs, by rw [e], .inl hr, hn, fun p bs' np hn' => kq.layL rl np (nms_rp hn') q⟩⟩
instance : MoC srtLW := ⟨fun k ⟨w, ns, e, h, q⟩ => ⟨w, ns, e, h, k _ _ q⟩⟩
theorem r_srtL {w : W} {ns : List Nm} {σ : Sto} {Q : QK} (h : dat σ w = some (.list (ns.map nmD))) (q : Q (.d (.list ((srt ns).map nmD))) σ) : srtLW [w] σ Q := ⟨w, ns, rfl, h, q⟩
theorem call_sortLA {X : Cx} {K : PySem.W.Frag} {k : Nat} (hK : X.K = K) (hc : X.calm = true) (hr : Room k X.A) : CallR X (.builtin "sorted") (rSortLN K) := call_sortLN hK hc (by have := hr.un; omega)
end Aw

set_option maxHeartbeats 8000000
set_option synthInstance.maxHeartbeats 2000000
set_option synthInstance.maxSize 100000
/-! L15P: k15: its own defs as abstract programs (generated). -/
namespace Lw
open PySem PySem.Spec PyProof.Rows L2 Mw Aw
noncomputable abbrev p15Ito : AS := (aRet (aAndV (aIsi "tuple" (aVar 1)) (aOp (ra2 (eqF false)) (aCB lenW (aCons (aVar 1) aNil)) (aVar 0))))
noncomputable abbrev p15Num : AS := (aRet (aAndV (aIsi "int" (aVar 0)) (aNotV (aIsi "bool" (aVar 0)))))
noncomputable abbrev p15Sml : AS := (aRet (aChain (ra2 (ordF fLe)) (ra2 (ordF fLe)) (aD (.str "a")) (aVar 0) (aD (.str "z"))))
noncomputable abbrev p15Wrd (fSml : AF) : AS := (aSeq (aIfS (aNot (aTest (aIsi "str" (aVar 0))))
    (aRet (aD (.bool false)))
    aNext)
  (aRet (aAndV (aChain (ra2 (ordF fLe)) (ra2 (ordF fLe)) (aD (.int 1)) (aCB lenW (aCons (aVar 0) aNil)) (aD (.int 8))) (aAllG (aIt (aVar 0)) (agN 1) aYes (aCall fSml 1 (aCons (aVar 1) aNil)) [1] true))))
noncomputable abbrev p15Isn (fWrd fNum fIto : AF) : AS := (aSeq (aIfS (aNot (aTest (aCall fIto 2 (aCons (aD (.int 2)) (aCons (aVar 0) aNil)))))
    (aRet (aD (.bool false)))
    aNext)
  (aRet (aAndV (aCall fNum 1 (aCons (aOp ixW (aVar 0) (aD (.int 0))) aNil)) (aAndV (aOp (ra2 (ordF fGe)) (aOp ixW (aVar 0) (aD (.int 0))) (aD (.int 1))) (aCall fWrd 1 (aCons (aOp ixW (aVar 0) (aD (.int 1))) aNil))))))
noncomputable abbrev p15Nof : AS := (aRet (aTupG (aIt (aVar 0)) (agN 1) aYes (aOp ixW (aVar 1) (aD (.int 0))) [1]))
noncomputable abbrev p15By : AS := (aRet (aDcT (aIt (aVar 0)) (agN 1) aYes (aOp ixW (aVar 1) (aD (.int 0))) (aVar 1) [1]))
noncomputable abbrev p15Eby : AS := (aSeq (aAsg (aDcT (aIt (aVar 0)) (agN 3) aYes (aVar 3) (aD (.bool true)) [3]) (agN 2))
  (aSeq (aFor (aIt (aVar 0)) (agN 3)
    (aFor (aIt (aOp ixW (aVar 1) (aVar 3))) (agN 4)
    (aDPut (aVar 2) (aVar 4) (aD (.bool true)))))
  (aRet (aVar 2))))
noncomputable abbrev p15Kno (fEby : AF) : AS := (aSeq (aAsg (aDNew true) (agN 1))
  (aSeq (aFor (aIt (aVar 0)) (agN 2)
    (aDPut (aVar 1) (aOp ixW (aVar 2) (aD (.int 0))) (aCall fEby 2 (aCons (aOp ixW (aVar 2) (aD (.int 2))) (aCons (aVar 1) aNil)))))
  (aRet (aVar 1))))
noncomputable abbrev p15Cho (fIsn : AF) : AS := (aSeq (aIfS (aTest (aCall fIsn 1 (aCons (aVar 1) aNil)))
    (aFor (aIt (aVar 0)) (agN 2)
    (aIfS (aTest (aOp (ra2 (eqF false)) (aOp ixW (aVar 2) (aD (.int 0))) (aVar 1)))
    (aRet (aVar 2))
    aNext))
    aNext)
  aNever)
noncomputable abbrev p15Knw (fKno fCho : AF) : AS := (aSeq (aAsg (aCall fCho 2 (aCons (aVar 0) (aCons (aVar 1) aNil))) (agN 2))
  (aSeq (aAsg (aOp ixW (aCall fKno 1 (aCons (aVar 0) aNil)) (aOp ixW (aVar 2) (aD (.int 0)))) (agN 3))
  (aRet (aTupG (aIt (aVar 0)) (agN 4) (aTest (aOp (inW false) (aOp ixW (aVar 4) (aD (.int 0))) (aVar 3))) (aVar 4) [4]))))
noncomputable abbrev p15Top (fNof : AF) : AS := (aSeq (aAsg (aDc2 (aIt (aVar 0)) (agN 2) aYes (aIt (aOp ixW (aVar 2) (aD (.int 2)))) (agN 3) aYes (aVar 3) (aD (.bool true)) [2, 3] [3]) (agN 1))
  (aRet (aTupG (aIt (aCall fNof 1 (aCons (aVar 0) aNil))) (agN 3) (aTest (aOp (inW true) (aVar 3) (aVar 1))) (aVar 3) [3])))
noncomputable abbrev p15Brn (fNof : AF) : AS := (aRet (aTupG (aIt (aCall fNof 1 (aCons (aVar 0) aNil))) (agN 2) (aTest (aOp (ra2 (eqF false)) (aOp ixW (aVar 2) (aD (.int 1))) (aVar 1))) (aVar 2) [2]))
noncomputable abbrev p15Ein (fBy : AF) : AS := (aSeq (aAsg (aCall fBy 1 (aCons (aVar 1) aNil)) (agN 2))
  (aSeq (aFor (aIt (aVar 0)) (agN 3)
    (aDPut (aVar 2) (aOp ixW (aVar 3) (aD (.int 0))) (aVar 3)))
  (aRet (aTupG (aIt (aCB srtW (aCons (aVar 2) aNil))) (agN 4) aYes (aOp ixW (aVar 2) (aVar 4)) [4]))))
noncomputable abbrev p15Joi (fBrn fKno fBy fEin : AF) : AS := (aSeq (aAsg (aCall fEin 2 (aCons (aVar 0) (aCons (aVar 1) aNil))) (agN 2))
  (aSeq (aAsg (aCall fBy 1 (aCons (aVar 1) aNil)) (agN 3))
  (aSeq (aAsg (aCall fKno 1 (aCons (aVar 2) aNil)) (agN 4))
  (aSeq (aFor (aEnum (aCons (aVar 2) aNil)) (agT 2 (agCons (agN 5) (agCons (agN 6) agNil)))
    (aSeq (aAsg (aOp ixW (aVar 6) (aD (.int 0))) (agN 7))
  (aSeq (aIfS (aTest (aOp (ra2 (eqF true)) (aGet2 (aVar 3) (aVar 7) (aVar 6)) (aVar 6)))
    aNever
    aNext)
  (aSeq (aAsg (aCall fBrn 2 (aCons (aSl (aVar 2) aNoP (aPart (aVar 5))) (aCons (aOp ixW (aVar 7) (aD (.int 1))) aNil))) (agN 8))
  (aIfS (aNot (aTest (aAllG (aIt (aVar 8)) (agN 9) aYes (aOp (inW false) (aVar 9) (aOp ixW (aVar 4) (aVar 7))) [9] true)))
    aNever
    aNext)))))
  (aRet (aVar 2))))))
noncomputable abbrev p15Com (fBy : AF) : AS := (aSeq (aAsg (aCall fBy 1 (aCons (aVar 1) aNil)) (agN 2))
  (aSeq (aAsg (aDNew true) (agN 3))
  (aSeq (aFor (aIt (aVar 0)) (agN 4)
    (aSeq (aAsg (aOp (ra2 (eqF false)) (aGet1 (aVar 2) (aOp ixW (aVar 4) (aD (.int 0)))) (aVar 4)) (agN 5))
  (aIfS (aAnd (aTest (aVar 5)) (aTest (aAllG (aIt (aOp ixW (aVar 4) (aD (.int 2)))) (agN 6) aYes (aOp (inW false) (aVar 6) (aVar 3)) [6] true)))
    (aDPut (aVar 3) (aOp ixW (aVar 4) (aD (.int 0))) (aVar 4))
    aNext)))
  (aRet (aTupVals (aVar 3))))))
noncomputable abbrev p15Prt (fBy : AF) : AS := (aSeq (aAsg (aCall fBy 1 (aCons (aVar 1) aNil)) (agN 2))
  (aRet (aAllG (aIt (aVar 0)) (agN 3) aYes (aOp (ra2 (eqF false)) (aGet1 (aVar 2) (aOp ixW (aVar 3) (aD (.int 0)))) (aVar 3)) [3] true)))
noncomputable abbrev p15Isr (fIsn fBy : AF) : AS := (aSeq (aIfS (aOr (aNot (aTest (aIsi "tuple" (aVar 1)))) (aTest (aOp (ra2 (eqF true)) (aCB lenW (aCons (aVar 1) aNil)) (aCB lenW (aCons (aVar 0) aNil)))))
    (aRet (aD (.bool false)))
    aNext)
  (aSeq (aAsg (aCall fBy 1 (aCons (aVar 0) aNil)) (agN 2))
  (aSeq (aAsg (aDNew true) (agN 3))
  (aSeq (aFor (aIt (aVar 1)) (agN 4)
    (aSeq (aIfS (aOr (aNot (aTest (aCall fIsn 1 (aCons (aVar 4) aNil)))) (aOr (aTest (aOp (inW true) (aVar 4) (aVar 2))) (aTest (aOp (inW false) (aVar 4) (aVar 3)))))
    (aRet (aD (.bool false)))
    aNext)
  (aSeq (aIfS (aNot (aTest (aAllG (aIt (aOp ixW (aOp ixW (aVar 2) (aVar 4)) (aD (.int 2)))) (agN 5) aYes (aOp (inW false) (aVar 5) (aVar 3)) [5] true)))
    (aRet (aD (.bool false)))
    aNext)
  (aDPut (aVar 3) (aVar 4) (aD (.bool true))))))
  (aRet (aD (.bool true)))))))
noncomputable abbrev p15Rbn (fNof : AF) : AS := (aRet (aCall fNof 1 (aCons (aVar 0) aNil)))
noncomputable abbrev p15Road (fDraw : AF) : AS := (aSeq (aAsg (aCB listCW (aCons (aVar 2) aNil)) (agN 3))
  (aSeq (aAsg (aLstC aNil) (agN 4))
  (aSeq (aAsg (aCall fDraw 2 (aCons (aVar 0) (aCons (aD (.int 3)) aNil))) (agN 5))
  (aSeq (aWhile (aTest (aOp (ra2 (eqF true)) (aVar 3) (aLst aNil)))
    (aSeq (aAsg (aLc (aIt (aVar 3)) (agN 7) (aTest (aOp (ra2 (eqF false)) (aLc (aIt (aOp ixW (aOp ixW (aVar 1) (aD (.str "knows"))) (aVar 7))) (agN 8) (aTest (aOp (inW false) (aVar 8) (aVar 3))) (aVar 8) [8]) (aLst aNil))) (aVar 7) [7]) (agN 6))
  (aSeq (aAsg (aOp ixW (aVar 6) (aOp ixW (aLst (aCons (aCall fDraw 2 (aCons (aVar 0) (aCons (aCB lenW (aCons (aVar 6) aNil)) aNil))) (aCons (aD (.int 0)) (aCons (aOp (ra2 subD) (aCB lenW (aCons (aVar 6) aNil)) (aD (.int 1))) aNil)))) (aVar 5))) (agN 7))
  (aSeq (aDrop (aBM "list" remW (aVar 3) (aCons (aVar 7) aNil)))
  (aDrop (aBM "list" appendW (aVar 4) (aCons (aVar 7) aNil)))))))
  (aRet (aCB tupleW (aCons (aVar 4) aNil)))))))
noncomputable abbrev p15Laid (fKnw fCho : AF) : AS := (aRet (aCB tupleW (aCons (aOp (ra2 addD) (aCB listW (aCons (aCall fKnw 2 (aCons (aVar 0) (aCons (aVar 1) aNil))) aNil)) (aLst (aCons (aCall fCho 2 (aCons (aVar 0) (aCons (aVar 1) aNil))) aNil))) aNil)))
noncomputable abbrev p15Srt (fTop fKnw fRbn fPrt : AF) : AS := (aSeq (aIfS (aOr (aTest (aNoB true (aCall fPrt 2 (aCons (aVar 1) (aCons (aVar 0) aNil))))) (aTest (aOp (ra2 (eqF true)) (aCB listW (aCons (aCall fRbn 1 (aCons (aVar 1) aNil)) aNil)) (aCB srtLW (aCons (aVar 2) aNil)))))
    (aRet (aD (.bool false)))
    aNext)
  (aSeq (aFor (aIt (aVar 2)) (agN 3)
    (aIfS (aTest (aOp (ra2 (eqF true)) (aCB reprW (aCons (aCall fKnw 2 (aCons (aVar 1) (aCons (aVar 3) aNil))) aNil)) (aCB reprW (aCons (aCall fKnw 2 (aCons (aVar 0) (aCons (aVar 3) aNil))) aNil))))
    (aRet (aD (.bool false)))
    aNext))
  (aRet (aOp (ra2 (eqF false)) (aLc (aIt (aCall fTop 1 (aCons (aVar 1) aNil))) (agN 3) (aTest (aOp (inW true) (aVar 3) (aVar 2))) (aVar 3) [3]) (aLst aNil)))))
noncomputable abbrev p15Byr (fSrt fDraw fJoi fLaid : AF) : AS := (aSeq (aAsg (aLstC (aCons (aTup aNil) aNil)) (agN 3))
  (aSeq (aAsg (aLstC aNil) (agN 4))
  (aSeq (aFor (aIt (aVar 2)) (agN 5)
    (aSeq (aAsg (aCall fLaid 2 (aCons (aVar 1) (aCons (aVar 5) aNil))) (agN 6))
  (aSeq (aDrop (aBM "list" appendW (aVar 3) (aCons (aIf (aTest (aOp (ra2 (eqF false)) (aCall fDraw 2 (aCons (aVar 0) (aCons (aD (.int 2)) aNil))) (aD (.int 0)))) (aCall fJoi 2 (aCons (aVar 6) (aCons (aOp ixW (aVar 3) (aUn (ra1 negD) (aD (.int 1)))) aNil))) (aCall fJoi 2 (aCons (aOp ixW (aVar 3) (aUn (ra1 negD) (aD (.int 1)))) (aCons (aVar 6) aNil)))) aNil)))
  (aSeq (aDrop (aBM "list" appendW (aVar 4) (aCons (aVar 5) aNil)))
  (aIfS (aNot (aTest (aCall fSrt 3 (aCons (aVar 1) (aCons (aOp ixW (aVar 3) (aUn (ra1 negD) (aD (.int 1)))) (aCons (aVar 4) aNil))))))
    (aRet (aD .none))
    aNext)))))
  (aRet (aVar 3)))))
noncomputable abbrev p15Lum (fTop fJoi fLaid fDraw : AF) : AS := (aSeq (aAsg (aTup aNil) (agN 3))
  (aSeq (aFor (aR1 (aCons (aOp (ra2 mulD) (aCall fDraw 2 (aCons (aVar 0) (aCons (aD (.int 7)) aNil))) (aCB intW (aCons (aOp (ra2 (eqF true)) (aVar 2) (aLst aNil)) aNil))) aNil)) (agN 4)
    (aAsg (aCall fJoi 2 (aCons (aVar 3) (aCons (aCall fLaid 2 (aCons (aVar 1) (aCons (aOp ixW (aVar 2) (aCall fDraw 2 (aCons (aVar 0) (aCons (aCB lenW (aCons (aVar 2) aNil)) aNil)))) aNil))) aNil))) (agN 3)))
  (aSeq (aFor (aIt (aCall fTop 1 (aCons (aVar 1) aNil))) (agN 5)
    (aAsg (aCall fJoi 2 (aCons (aCall fLaid 2 (aCons (aVar 1) (aCons (aVar 5) aNil))) (aCons (aVar 3) aNil))) (agN 3)))
  (aRet (aVar 3)))))
noncomputable abbrev p15Law (fLum fWo fCom fDraw fByr fIsr fRoad fLedger fWorld fWords fFeed : AF) : AS := (aSeq (aAsg (aCall fFeed 1 (aCons (aVar 0) aNil)) (agN 1))
  (aSeq (aAsg (aCall fWords 2 (aCons (aVar 1) (aCons (aOp (ra2 addD) (aD (.int 1)) (aCall fDraw 2 (aCons (aVar 1) (aCons (aD (.int 6)) aNil)))) aNil))) (agN 2))
  (aSeq (aAsg (aCall fWorld 3 (aCons (aVar 1) (aCons (aVar 2) (aCons (aCall fDraw 2 (aCons (aVar 1) (aCons (aD (.int 17)) aNil))) aNil)))) (agN 3))
  (aSeq (aAsg (aCB srtW (aCons (aOp ixW (aVar 3) (aD (.str "changes"))) aNil)) (agN 4))
  (aSeq (aAsg (aCall fLedger 2 (aCons (aVar 3) (aCons (aVar 4) aNil))) (agN 5))
  (aSeq (aFor (aR1 (aCons (aD (.int 2)) aNil)) (agN 6)
    (aSeq (aAsg (aCall fRoad 3 (aCons (aVar 1) (aCons (aVar 3) (aCons (aVar 4) aNil)))) (agN 7))
  (aSeq (aIfS (aTest (aNoB true (aCall fIsr 2 (aCons (aVar 5) (aCons (aVar 7) aNil)))))
    (aRet (aD (.bool false)))
    aNext)
  (aSeq (aAsg (aCall fByr 3 (aCons (aVar 1) (aCons (aVar 5) (aCons (aVar 7) aNil)))) (agN 8))
  (aSeq (aIfS (aOr (aTest (aIsN (aVar 8))) (aTest (aOp (ra2 (eqF true)) (aCB reprW (aCons (aOp ixW (aVar 8) (aUn (ra1 negD) (aD (.int 1)))) aNil)) (aCB reprW (aCons (aVar 5) aNil)))))
    (aRet (aD (.bool false)))
    aNext)
  (aSeq (aPar 9 10 (aCons (aCall fDraw 2 (aCons (aVar 1) (aCons (aCB lenW (aCons (aVar 8) aNil)) aNil))) (aCons (aCall fDraw 2 (aCons (aVar 1) (aCons (aCB lenW (aCons (aVar 8) aNil)) aNil))) aNil)))
  (aSeq (aIfS (aTest (aOp (ra2 (eqF true)) (aCB reprW (aCons (aCall fCom 2 (aCons (aOp ixW (aVar 8) (aVar 9)) (aCons (aOp ixW (aVar 8) (aVar 10)) aNil))) aNil)) (aCB reprW (aCons (aOp ixW (aVar 8) (aCB min2W (aCons (aVar 9) (aCons (aVar 10) aNil)))) aNil))))
    (aRet (aD (.bool false)))
    aNext)
  (aSeq (aIfS (aTest (aOp (ra2 (eqF true)) (aCB reprW (aCons (aCall fWo 2 (aCons (aVar 5) (aCons (aSl (aVar 7) (aPart (aVar 9)) aNoP) aNil))) aNil)) (aCB reprW (aCons (aOp ixW (aVar 8) (aVar 9)) aNil))))
    (aRet (aD (.bool false)))
    aNext)
  (aIfS (aTest (aOp (ra2 (eqF true)) (aCB reprW (aCons (aCall fLum 3 (aCons (aVar 1) (aCons (aVar 5) (aCons (aVar 4) aNil)))) aNil)) (aCB reprW (aCons (aVar 5) aNil))))
    (aRet (aD (.bool false)))
    aNext)))))))))
  (aRet (aD (.bool true)))))))))
end Lw

set_option maxHeartbeats 4000000
/-! L15A: k15: kinds of names; change_of, known. -/
namespace Lw
open PySem PySem.Spec PyProof.Rows L2 Mw Aw
/-! ### is_name of names -/
theorem r_isiV {i : Nat} {n : String} {d : PyData} {b : Bool} {e : Ev} {σ : Sto} {Q : QK} {X : XQ} (hv : e[i]? = some (some (.d d))) (hd : ∀ ds, d ≠ .dict ds) (hk : kitB (tyN d) n = some b) (q : Q (.d (.bool b)) σ) : aIsi n (aVar i) e σ Q X := ⟨.d d, hv, d, b, rfl, hd, hk, q⟩
theorem r_leS {s t : Str} {P : PyData → Prop} (hs : (PyData.str s).canLay0 = true) (ht : (PyData.str t).canLay0 = true) (h : P (.bool (decide ¬ (t.cps.toList < s.cps.toList)))) : ordF fLe (.str s) (.str t) P := by
  refine ⟨⟨by simp [PySem.W.alike], by nofun, hs, ht, by simp [PyData.depth]⟩, ?_⟩
  unfold fLe
  rw [PySem.W.dataLt_str]
  by_cases h1 : t.cps.toList < s.cps.toList
  · rw [decide_eq_true h1]; rw [decide_eq_false (by simpa using h1)] at h; exact h
  · rw [decide_eq_false h1]; rw [decide_eq_true h1] at h; exact h
theorem r_nt {p q : Prop} (h : q) : if (!true) = true then p else q := h
def fIto : AF := fun ws σ Q _ => ∃ (m : Int) (ds : List PyData), ws = [.d (.int m), .d (.tuple ds)] ∧ Q (.d (.bool (decide ((ds.length : Int) = m)))) σ
instance : MoF fIto := ⟨fun k ⟨a, b, h, q⟩ => ⟨a, b, h, k _ _ q⟩⟩
theorem ito_ok : ∀ ws σ Q X, fIto ws σ Q X → aFn 2 p15Ito ws σ Q X := by
  rintro ws σ Q X ⟨m, ds, rfl, q⟩
  and_intros
  refine r_isiV (d := .tuple ds) rfl (by nofun) (b := true) rfl ?_
  and_intros
  exact q
def fNum : AF := fun ws σ Q _ => ∃ (m : Int), ws = [.d (.int m)] ∧ Q (.d (.bool true)) σ
instance : MoF fNum := ⟨fun k ⟨a, h, q⟩ => ⟨a, h, k _ _ q⟩⟩
theorem num_ok : ∀ ws σ Q X, fNum ws σ Q X → aFn 1 p15Num ws σ Q X := by
  rintro ws σ Q X ⟨m, rfl, q⟩
  and_intros
  refine r_isiV (d := .int m) rfl (by nofun) (b := true) rfl ?_
  and_intros
  refine r_isiV (d := .int m) rfl (by nofun) (b := false) rfl ?_
  and_intros
  exact q
def fSml : AF := fun ws σ Q _ => ∃ c : Nat, ws = [Aw.chD c] ∧ 97 ≤ c ∧ c ≤ 122 ∧ Q (.d (.bool true)) σ
instance : MoF fSml := ⟨fun k ⟨a, h, h1, h2, q⟩ => ⟨a, h, h1, h2, k _ _ q⟩⟩
theorem sml_ok : ∀ ws σ Q X, fSml ws σ Q X → aFn 1 p15Sml ws σ Q X := by
  rintro ws σ Q X ⟨c, rfl, h1, h2, q⟩
  and_intros
  have lay : (PyData.str ⟨#[c]⟩).canLay0 = true := by
    simp only [PyData.canLay0, PyData.strOk]
    simp
    omega
  refine r_2 (r_leS (by decide +kernel) lay ?_)
  rw [decide_eq_true (by
    show ¬ ([c] < [97])
    intro h
    rcases List.cons_lt_cons_iff.mp h with h | ⟨_, h⟩
    · omega
    · exact absurd h (by simp))]
  and_intros
  refine r_2 (r_leS lay (by decide +kernel) ?_)
  rw [decide_eq_true (by
    show ¬ ([122] < [c])
    intro h
    rcases List.cons_lt_cons_iff.mp h with h | ⟨_, h⟩
    · omega
    · exact absurd h (by simp))]
  exact q
def fWd : AF := fun ws σ Q _ => ∃ z : Str, ws = [.d (.str z)] ∧ Wrd z ∧ Q (.d (.bool true)) σ
instance : MoF fWd := ⟨fun k ⟨a, h, h1, q⟩ => ⟨a, h, h1, k _ _ q⟩⟩
theorem wrd_ok : ∀ ws σ Q X, fWd ws σ Q X → aFn 2 (p15Wrd fSml) ws σ Q X := by
  rintro ws σ Q X ⟨z, rfl, w, q⟩
  have l1 := w.one
  have l8 := w.most
  and_intros
  refine r_isiV (d := .str z) rfl (by nofun) (b := true) rfl ?_
  and_intros
  refine r_nt ?_
  and_intros
  refine r_lenS (s := z) (by rw [sizeLine_eq]; omega) ?_
  and_intros
  rw [decide_eq_true (by omega)]
  and_intros
  rw [decide_eq_true (by omega)]
  and_intros
  with_reducible refine r_allG ?_
  and_intros
  show gnGo _ _ _ _ _ _ _ _ (z.cps.toList.map Aw.chD) _ _
  refine @ag_fm Nat _ _ _ _ _ _ _ _ _ _ _ true z.cps.toList (fun n => Aw.chD n) (fun _ => true) ?_ ?_ ?_
  · exact True.intro
  · intro n hn Y hy
    and_intros
    refine ⟨rfl, ?_⟩
    and_intros
    refine ⟨n, rfl, (w.low n hn).1, (w.low n hn).2, ?_⟩
    exact ⟨_, rfl, rfl, hy⟩
  · rw [show (z.cps.toList.all fun _ => true) = true by simp]
    exact q
structure NmK (n : Nm) : Prop extends NmOk n where
  one : 1 ≤ n.1
def fIsn : AF := fun ws σ Q _ => ∃ n : Nm, ws = [.d (nmD n)] ∧ NmK n ∧ Q (.d (.bool true)) σ
instance : MoF fIsn := ⟨fun k ⟨a, h, h1, q⟩ => ⟨a, h, h1, k _ _ q⟩⟩
theorem isn_ok : ∀ ws σ Q X, fIsn ws σ Q X → aFn 1 (p15Isn fWd fNum fIto) ws σ Q X := by
  rintro ws σ Q X ⟨n, rfl, w, q⟩
  have h1 := w.one
  and_intros
  refine ⟨2, [.int n.1, .str n.2], rfl, ?_⟩
  rw [decide_eq_true (by simp)]
  and_intros
  refine r_nt ?_
  and_intros
  refine r_ixT (ds := [.int n.1, .str n.2]) (x := .int n.1) rfl ?_
  and_intros
  refine ⟨n.1, rfl, ?_⟩
  and_intros
  refine r_ixT (ds := [.int n.1, .str n.2]) (x := .int n.1) rfl ?_
  and_intros
  rw [decide_eq_true (by omega)]
  and_intros
  refine r_ixT (ds := [.int n.1, .str n.2]) (x := .str n.2) rfl ?_
  and_intros
  exact ⟨n.2, rfl, w.wrd, q⟩
theorem wr_one {zs : List Str} {cs : List Ch} (w : Wr zs cs) : ∀ c ∈ cs, 1 ≤ c.nm.1 := by
  induction w with
  | nil => intro c hc; cases hc
  | @snoc cs c0 w s ih =>
    intro c hc
    rcases List.mem_append.mp hc with h | h
    · exact ih c h
    · rw [List.mem_singleton.mp h]
      obtain ⟨br, hand, gs, deed, _, _, hg, _, e, _⟩ := s.ex
      rw [e]
      show 1 ≤ 1 + maxZ 0 _
      have hb := maxZ_le (B := (cs.length : Int) + 1) (by omega) (l := (srt (want cs gs)).map (·.1)) fun x hx => by
        obtain ⟨m, hm, rfl⟩ := List.mem_map.mp hx
        have := cnt_le w m (want_sub w hg (mem_srt.mp hm))
        omega
      have := hb.1
      omega
theorem nm_k {zs : List Str} {cs : List Ch} (w : Wr zs cs) (ww : ∀ z ∈ zs, Wrd z) (h : cs.length ≤ 17) : ∀ n ∈ names cs, NmK n := fun n hn => by
  obtain ⟨c, hc, rfl⟩ := List.mem_map.mp hn
  exact { nm_ok w ww h _ hn with one := wr_one w c hc }
/-! ### change_of -/
theorem same_nm {M : List Ch} (nd : (names M).Nodup) {c d : Ch} (hc : c ∈ M) (hd : d ∈ M) (e : d.nm = c.nm) : d = c := by
  have h1 := find_own nd hc
  have h2 := find_own nd hd
  rw [e, h1] at h2
  exact (Option.some.inj h2).symm
def fCho : AF := fun ws σ Q _ => ∃ (M : List Ch) (c : Ch), ws = [.d (ledD M), .d (nmD c.nm)] ∧ c ∈ M ∧ (names M).Nodup ∧ NmK c.nm ∧ (∀ d ∈ M, NmOk d.nm) ∧ Q (.d (Mw.chD c)) σ
instance : MoF fCho := ⟨fun k ⟨a, b, h, h1, h2, h3, h4, q⟩ => ⟨a, b, h, h1, h2, h3, h4, k _ _ q⟩⟩
theorem cho_ok : ∀ ws σ Q X, fCho ws σ Q X → aFn 3 (p15Cho fIsn) ws σ Q X := by
  rintro ws σ Q X ⟨M, c, rfl, hc, nd, hk, hok, q⟩
  and_intros
  refine ⟨c.nm, rfl, hk, ?_⟩
  and_intros
  rw [mapW]
  refine loop_run (fun i e s => ∃ v2, e = [some (.d (ledD M)), some (.d (nmD c.nm)), v2] ∧ s = σ ∧ c.nm ∉ names (M.take i)) ⟨none, rfl, rfl, by simp⟩ (fun i w e s Rest hw h k => ?_) fun e s h => ?_
  · obtain ⟨v2, rfl, rfl, hn⟩ := h
    rw [List.getElem?_map] at hw
    obtain ⟨d, hd, rfl⟩ := Option.map_eq_some_iff.mp hw
    have hdM := List.mem_of_getElem? hd
    refine ⟨True.intro, ?_⟩
    and_intros
    refine r_ixT (x := nmD d.nm) at0 ?_
    and_intros
    refine ⟨⟨shNm (hok d hdM).wrd, shNm hk.wrd⟩, ?_⟩
    show tstB _ (.d (.bool (PyData.eqv (nmD d.nm) (nmD c.nm)))) _
    rw [eqv_nm]
    and_intros
    refine r_ite (fun hk => ?_) fun hk => ?_
    · and_intros
      rw [same_nm nd hc hdM hk]
      exact q
    · and_intros
      refine k _ _ ⟨_, rfl, rfl, ?_⟩
      rw [take_snoc hd]
      intro z
      rcases List.mem_append.mp (show c.nm ∈ names (M.take i) ++ [d.nm] by simpa [names] using z) with z | z
      · exact hn z
      · exact hk (List.mem_singleton.mp z).symm
  · obtain ⟨v2, rfl, rfl, hn⟩ := h
    rw [List.length_map, List.take_length] at hn
    exact absurd (List.mem_map.mpr ⟨c, hc, rfl⟩) hn
/-! ### parts of a world -/
theorem fm_filter {cs : List Ch} (B : List Nm) : ∀ {l : List Nm}, (∀ n ∈ l, n ∈ names cs) → (l.filterMap (findC cs)).filter (fun e => decide (e.nm ∈ B)) = (l.filter fun n => decide (n ∈ B)).filterMap (findC cs)
  | [], _ => rfl
  | n :: l, h => by
    obtain ⟨c, hf, hc, e⟩ := findC_mem (h n (by simp))
    have ih := fm_filter B (l := l) fun x hx => h x (List.mem_cons_of_mem _ hx)
    rw [List.filterMap_cons, hf, List.filter_cons, List.filter_cons, e]
    by_cases hb : n ∈ B
    · rw [decide_eq_true hb]
      simp only [if_true]
      rw [List.filterMap_cons, hf, ih]
    · rw [decide_eq_false hb]
      simp only [Bool.false_eq_true, if_false]
      exact ih
theorem ledP_congr {cs : List Ch} {A B : List Nm} (h : ∀ n ∈ names cs, n ∈ A ↔ n ∈ B) : ledP cs A = ledP cs B := by
  unfold ledP
  congr 1
  refine List.filter_congr fun n hn => ?_
  have := h n (mem_srt.mp hn)
  by_cases ha : n ∈ A
  · rw [decide_eq_true ha, decide_eq_true (this.mp ha)]
  · rw [decide_eq_false ha, decide_eq_false fun z => ha (this.mpr z)]
theorem led_sub (cs : List Ch) (A B : List Nm) : (ledP cs A).filter (fun e => decide (e.nm ∈ B)) = ledP cs (A.filter fun n => decide (n ∈ B)) := by
  unfold ledP
  rw [fm_filter B (fun n hn => mem_srt.mp (List.mem_filter.mp hn).1), List.filter_filter]
  congr 1
  refine List.filter_congr fun n hn => ?_
  by_cases ha : n ∈ A <;> by_cases hb : n ∈ B <;> simp [ha, hb]
/-! ### known -/
structure Wld (zs : List Str) (cs : List Ch) : Prop where
  wr : Wr zs cs
  ww : ∀ z ∈ zs, Wrd z
  few : cs.length ≤ 16
theorem Wld.nd {zs : List Str} {cs : List Ch} (W : Wld zs cs) : (names cs).Nodup := names_nodup W.wr
theorem Wld.ok {zs : List Str} {cs : List Ch} (W : Wld zs cs) : ∀ c ∈ cs, ChOk c := ch_ok W.wr W.ww (by have := W.few; omega)
theorem Wld.nk {zs : List Str} {cs : List Ch} (W : Wld zs cs) : ∀ n ∈ names cs, NmK n := nm_k W.wr W.ww (by have := W.few; omega)
def fKnw : AF := fun ws σ Q _ => ∃ zs cs A c, ws = [.d (ledD (ledP cs A)), .d (nmD c.nm)] ∧ Wld zs cs ∧ ClP cs A ∧ c ∈ cs ∧ c.nm ∈ A ∧ Q (.d (ledD (ledP cs c.kn))) σ
instance : MoF fKnw := ⟨fun k ⟨a, b, c, d, h, h1, h2, h3, h4, q⟩ => ⟨a, b, c, d, h, h1, h2, h3, h4, k _ _ q⟩⟩
theorem knw_ok : ∀ ws σ Q X, fKnw ws σ Q X → aFn 5 (p15Knw fKno fCho) ws σ Q X := by
  rintro ws σ Q X ⟨zs, cs, A, c, rfl, W, cA, hc, hA, q⟩
  have nd := W.nd
  have f16 := W.few
  have hcA : c ∈ ledP cs A := (mem_ledP nd).mpr ⟨hc, hA⟩
  have led := ledP_led W.wr cA
  have lU := ledP_len cs A
  have e : (ledP cs A).filter (fun e => decide (e.nm ∈ c.kn)) = ledP cs c.kn := by
    rw [led_sub]
    refine ledP_congr fun n hn => ?_
    rw [List.mem_filter]
    constructor
    · rintro ⟨_, h⟩; exact of_decide_eq_true h
    · intro h; exact ⟨cA.clo c.nm hA n (by rw [knOf_own W.wr hc]; exact h), decide_eq_true h⟩
  and_intros
  refine ⟨_, c, rfl, hcA, ledP_nd nd A, W.nk _ (List.mem_map.mpr ⟨c, hc, rfl⟩), fun d hd => (W.ok d (ledP_mem hd)).nm, ?_⟩
  and_intros
  refine ⟨zs, cs, _, rfl, W.wr, by omega, led, fun c hc => Nat.le_trans (W.ok c (ledP_mem hc)).bl (by decide), ?_⟩
  and_intros
  refine r_ixT (x := nmD c.nm) at0 ?_
  refine r_ixD (kvs := kvK (kg [] (ledP cs A))) (by show some _ = some _; congr 1; rw [List.map_map]; rfl) (kc_nm (f := fun p : Nm × List Nm => p.1) (g := fun p => Aw.W.d (yesD p.2)) _ c.nm) (by
        rw [get_K, look_some (by rw [kg_names]; simp [names]; exact ⟨c, hcA, rfl⟩)]) ?_
  and_intros
  refine r_tupG ?_
  and_intros
  rw [mapW]
  refine tg_fm (ledP cs A) (fun c => .d (Mw.chD c)) (fun e => if (decide (e.nm ∈ c.kn)) = true then some (Mw.chD e) else none) True.intro (by omega) (fun d hd Y N hy hno => ?_) ?_
  · and_intros
    refine r_ixT (x := nmD d.nm) at0 ?_
    and_intros
    refine r_inD (prs_yes _ _) (kc_Y _ _) ?_
    rw [get_Y]
    have hk := kg_kn W.wr led _ [] (List.append_nil _).symm c hcA d.nm
    by_cases h : d.nm ∈ c.kn
    · rw [if_pos (hk.mpr h)]
      refine r_tbool ?_
      refine r_iteT ?_
      and_intros
      exact ⟨_, rfl, rfl, hy _ (by simp [h])⟩
    · rw [if_neg fun z => h (hk.mp z)]
      refine r_tbool ?_
      refine r_iteF ?_
      exact ⟨rfl, hno (by simp [h])⟩
  · rw [fm_ite, e]
    exact q
/-! ### a change with all that it knows -/
theorem led_ext {cs M N : List Ch} (nd : (names cs).Nodup) (hM : ∀ c ∈ M, c ∈ cs) (hN : ∀ c ∈ N, c ∈ cs) (e : names M = names N) : M = N := by
  have f : ∀ {L : List Ch}, (∀ c ∈ L, c ∈ cs) → (names L).filterMap (findC cs) = L := fun {L} h => by
    induction L with
    | nil => rfl
    | cons c L ih =>
      show ((c.nm :: names L).filterMap (findC cs)) = _
      rw [List.filterMap_cons, find_own nd (h c (by simp)), ih fun x hx => h x (List.mem_cons_of_mem _ hx)]
  rw [← f hM, ← f hN, e]
theorem led_laid {zs : List Str} {cs : List Ch} (W : Wld zs cs) {c : Ch} (hc : c ∈ cs) : ledP cs c.kn ++ [c] = ledP cs (c.kn ++ [c.nm]) := by
  have nd := W.nd
  have hlt := cnt_lt W.wr c hc
  have hin : ∀ n ∈ names (ledP cs c.kn), n ∈ c.kn := fun n hn => by
    rw [ledP_names nd] at hn
    exact of_decide_eq_true (List.mem_filter.mp hn).2
  refine led_ext nd (fun d hd => ?_) (fun d hd => ledP_mem hd) ?_
  · rcases List.mem_append.mp hd with h | h
    · exact ledP_mem h
    · rw [List.mem_singleton.mp h]; exact hc
  · show List.map Ch.nm (ledP cs c.kn ++ [c]) = _
    rw [List.map_append]
    refine sorted_mem ?_ (ledP_nd nd _) (fun n => ?_) ?_ (ledP_so nd _)
    · refine List.nodup_append.mpr ⟨ledP_nd nd _, by simp, fun a ha b hb e => ?_⟩
      have h1 := hlt a (hin a ha)
      rw [e, show b = c.nm by simpa using hb] at h1
      omega
    · constructor
      · intro h
        rcases List.mem_append.mp h with h | h
        · obtain ⟨d, hd, rfl⟩ := List.mem_map.mp h
          obtain ⟨h1, h2⟩ := (mem_ledP nd).mp hd
          exact List.mem_map.mpr ⟨d, (mem_ledP nd).mpr ⟨h1, List.mem_append_left _ h2⟩, rfl⟩
        · rw [show n = c.nm by simpa using h]
          exact List.mem_map.mpr ⟨c, (mem_ledP nd).mpr ⟨hc, by simp⟩, rfl⟩
      · intro h
        obtain ⟨d, hd, rfl⟩ := List.mem_map.mp h
        obtain ⟨h1, h2⟩ := (mem_ledP nd).mp hd
        rcases List.mem_append.mp h2 with h2 | h2
        · exact List.mem_append_left _ (List.mem_map.mpr ⟨d, (mem_ledP nd).mpr ⟨h1, h2⟩, rfl⟩)
        · exact List.mem_append_right _ (by simpa using h2)
    · refine List.pairwise_append.mpr ⟨ledP_so nd _, by simp, fun a ha b hb => ?_⟩
      have h1 := hlt a (hin a ha)
      rw [show b = c.nm by simpa using hb, leN_eq, if_neg (by omega)]
      exact decide_eq_true h1
def fLaid : AF := fun ws σ Q _ => ∃ zs cs A c, ws = [.d (ledD (ledP cs A)), .d (nmD c.nm)] ∧ Wld zs cs ∧ ClP cs A ∧ c ∈ cs ∧ c.nm ∈ A ∧ Q (.d (ledD (ledP cs (c.kn ++ [c.nm])))) σ
instance : MoF fLaid := ⟨fun k ⟨a, b, c, d, h, h1, h2, h3, h4, q⟩ => ⟨a, b, c, d, h, h1, h2, h3, h4, k _ _ q⟩⟩
theorem laid_ok : ∀ ws σ Q X, fLaid ws σ Q X → aFn 2 (p15Laid fKnw fCho) ws σ Q X := by
  rintro ws σ Q X ⟨zs, cs, A, c, rfl, W, cA, hc, hA, q⟩
  have nd := W.nd
  have f16 := W.few
  have hcA : c ∈ ledP cs A := (mem_ledP nd).mpr ⟨hc, hA⟩
  have lU := ledP_len cs c.kn
  and_intros
  refine ⟨zs, cs, A, c, rfl, W, cA, hc, hA, ?_⟩
  and_intros
  refine ⟨_, _, _, rfl, rfl, pures_map _, ?_⟩
  and_intros
  refine ⟨_, c, rfl, hcA, ledP_nd nd A, W.nk _ (List.mem_map.mpr ⟨c, hc, rfl⟩), fun d hd => (W.ok d (ledP_mem hd)).nm, ?_⟩
  and_intros
  refine r_pures (ds := [Mw.chD c]) rfl (by rw [sizeLine_eq]; simp) ?_
  refine r_2 (r_addL ?_ ?_)
  · rw [List.length_map, sizeLine_eq]; simp; omega
  and_intros
  rw [show (ledP cs c.kn).map Mw.chD ++ [Mw.chD c] = (ledP cs (c.kn ++ [c.nm])).map Mw.chD by rw [← led_laid W hc, List.map_append]; rfl]
  exact q
end Lw

set_option maxHeartbeats 4000000
/-! L15B: k15: is_part, common, is_road. -/
namespace Lw
open PySem PySem.Spec PyProof.Rows L2 Mw Aw
def fRbn : AF := fNof
instance : MoF fRbn := inferInstanceAs (MoF fNof)
theorem rbn_ok : ∀ ws σ Q X, fRbn ws σ Q X → aFn 1 (p15Rbn fNof) ws σ Q X := by
  rintro ws σ Q X ⟨M, rfl, m1, q⟩
  and_intros
  exact ⟨M, rfl, m1, q⟩
theorem get_led {cs : List Ch} (nd : (names cs).Nodup) {B : List Nm} {c : Ch} (hc : c ∈ cs) : dget (kv1 (ledP cs B)) (nmD c.nm) = if c.nm ∈ B then some (.d (Mw.chD c)) else none := by
  rw [kv1_get]
  by_cases h : c.nm ∈ B
  · rw [if_pos h, sub_nd nd (fun x hx => ledP_mem hx) (List.mem_map.mpr ⟨c, (mem_ledP nd).mpr ⟨hc, h⟩, rfl⟩), find_own nd hc]
    rfl
  · rw [if_neg h]
    cases hf : findC (ledP cs B) c.nm with
    | none => rfl
    | some d =>
      have hdm := List.mem_of_find?_eq_some hf
      have hdn : d.nm = c.nm := of_decide_eq_true (List.find?_some (p := fun x : Ch => decide (x.nm = c.nm)) hf)
      exact absurd (hdn ▸ ((mem_ledP nd).mp hdm).2) h
def fPrt : AF := fun ws σ Q _ => ∃ zs cs A B, ws = [.d (ledD (ledP cs A)), .d (ledD (ledP cs B))] ∧ Wld zs cs ∧ (∀ c ∈ cs, c.nm ∈ A → c.nm ∈ B) ∧ Q (.d (.bool true)) σ
instance : MoF fPrt := ⟨fun k ⟨a, b, c, d, h, h1, h2, q⟩ => ⟨a, b, c, d, h, h1, h2, k _ _ q⟩⟩
theorem prt_ok : ∀ ws σ Q X, fPrt ws σ Q X → aFn 4 (p15Prt fBy) ws σ (fun w σ' => Told σ.length σ σ' w Q) X := by
  rintro ws σ Q X ⟨zs, cs, A, B, rfl, W, hAB, q⟩
  generalize hQ : (fun w σ' => Told σ.length σ σ' w Q) = Q'
  have key : ∀ {j : Sto}, Q' (.d (.bool true)) (σ ++ j) := fun {j} => by rw [← hQ]; exact told_d q
  clear hQ q
  have nd := W.nd
  have f16 := W.few
  have lA := ledP_len cs A
  have lB := ledP_len cs B
  and_intros
  refine ⟨ledP cs B, rfl, by omega, ledP_nd nd B, ?_⟩
  and_intros
  with_reducible refine r_allG ?_
  and_intros
  rw [mapW]
  refine @ag_fm Ch _ _ _ _ _ _ _ _ _ _ _ true (ledP cs A) (fun c => .d (Mw.chD c)) (fun _ => true) ?_ ?_ ?_
  · exact True.intro
  · intro c hc Y hy
    obtain ⟨h1, h2⟩ := (mem_ledP nd).mp hc
    and_intros
    refine ⟨rfl, ?_⟩
    and_intros
    refine r_get1 ?_
    and_intros
    refine ⟨by simp only [prsOf, px_j0]; rfl, ?_⟩
    and_intros
    refine r_ixT (x := nmD c.nm) at0 ?_
    refine r_gt px_j0 rfl ?_
    rw [get_led nd h1, if_pos (hAB c h1 h2)]
    and_intros
    refine r_2 ⟨⟨shCh (W.ok c h1), shCh (W.ok c h1)⟩, ?_⟩
    show ∃ d, (Aw.W.d (.bool (PyData.eqv (Mw.chD c) (Mw.chD c)))) = _ ∧ _
    rw [sh_eqv (shCh (W.ok c h1))]
    exact ⟨_, rfl, rfl, hy⟩
  · rw [show ((ledP cs A).all fun _ => true) = true by simp]
    exact key
def fCom : AF := fun ws σ Q _ => ∃ zs cs A B, ws = [.d (ledD (ledP cs A)), .d (ledD (ledP cs B))] ∧ Wld zs cs ∧ ClP cs A ∧ ClP cs B ∧ Q (.d (ledD (ledP cs (A.filter fun n => decide (n ∈ B))))) σ
instance : MoF fCom := ⟨fun k ⟨a, b, c, d, h, h1, h2, h3, q⟩ => ⟨a, b, c, d, h, h1, h2, h3, k _ _ q⟩⟩
theorem com_ok : ∀ ws σ Q X, fCom ws σ Q X → aFn 7 (p15Com fBy) ws σ (fun w σ' => Told σ.length σ σ' w Q) X := by
  rintro ws σ Q X ⟨zs, cs, A, B, rfl, W, cA, cB, q⟩
  generalize hQ : (fun w σ' => Told σ.length σ σ' w Q) = Q'
  have key : ∀ {j : Sto}, Q' (.d (ledD (ledP cs (A.filter fun n => decide (n ∈ B))))) (σ ++ j) := fun {j} => by rw [← hQ]; exact told_d q
  clear hQ q
  have nd := W.nd
  have f16 := W.few
  have lA := ledP_len cs A
  have lB := ledP_len cs B
  have led := ledP_led W.wr cA
  and_intros
  refine ⟨ledP cs B, rfl, by omega, ledP_nd nd B, ?_⟩
  and_intros
  rw [mapW]
  let S : Nat → List Ch := fun i => ((ledP cs A).take i).filter fun c => decide (c.nm ∈ B)
  refine loop_run (fun i e s => ∃ v4 v5 v6, e = [some (.d (ledD (ledP cs A))), some (.d (ledD (ledP cs B))), some (.ref σ.length), some (.ref (σ.length + 1)), v4, v5, v6] ∧ s = σ ++ [.dct true (kv1 (ledP cs B)), .dct true (kv1 (S i))]) ⟨none, none, none, by simp [aStart], by simp [S]⟩ (fun i w e s Rest hw h k => ?_) fun e s h => ?_
  · obtain ⟨v4, v5, v6, rfl, rfl⟩ := h
    rw [List.getElem?_map] at hw
    obtain ⟨c, hc, rfl⟩ := Option.map_eq_some_iff.mp hw
    have hcA := List.mem_of_getElem? hc
    obtain ⟨h1, h2⟩ := (mem_ledP nd).mp hcA
    have hi := (List.getElem?_eq_some_iff.mp hc).1
    have g1 : (σ ++ [Cell.dct true (kv1 (ledP cs B)), Cell.dct true (kv1 (S i))])[σ.length + 1]? = some (.dct true (kv1 (S i))) := by simp
    have eS : S (i + 1) = if c.nm ∈ B then S i ++ [c] else S i := by
      show ((ledP cs A).take (i + 1)).filter _ = _
      rw [take_snoc hc, List.filter_append, List.filter_cons]
      by_cases hB : c.nm ∈ B
      · rw [if_pos hB, decide_eq_true hB]; rfl
      · rw [if_neg hB, decide_eq_false hB]; simp [S]
    refine ⟨True.intro, ?_⟩
    and_intros
    refine r_get1 ?_
    and_intros
    refine ⟨by simp only [prsOf, px_j0]; rfl, ?_⟩
    and_intros
    refine r_ixT (x := nmD c.nm) at0 ?_
    refine r_gt px_j0 rfl ?_
    rw [get_led nd h1]
    by_cases hB : c.nm ∈ B
    · rw [if_pos hB]
      and_intros
      refine r_2 ⟨⟨shCh (W.ok c h1), shCh (W.ok c h1)⟩, ?_⟩
      show agN 5 (.d (.bool (PyData.eqv (Mw.chD c) (Mw.chD c)))) _ _ _
      rw [sh_eqv (shCh (W.ok c h1))]
      and_intros
      with_reducible refine r_allG ?_
      and_intros
      refine r_ixT (x := .tuple (c.base.map nmD)) rfl ?_
      and_intros
      rw [mapW]
      refine @ag_fm Nm _ _ _ _ _ _ _ _ _ _ _ true c.base (fun n => .d (nmD n)) (fun _ => true) ?_ ?_ ?_
      · exact True.intro
      · intro n hn Y hy
        and_intros
        refine ⟨rfl, ?_⟩
        and_intros
        refine r_inD (kvs := kv1 (S i)) (by simp only [prsOf, g1]) (kc_nm (f := Ch.nm) (g := fun c => Aw.W.d (Mw.chD c)) _ n) ?_
        have hnS : n ∈ names (S i) := by
          have edr : (ledP cs A).drop i = c :: (ledP cs A).drop (i + 1) := by
            rw [List.drop_eq_getElem_cons hi]
            rw [List.getElem?_eq_getElem hi] at hc
            cases hc
            rfl
          have hb := led.bef ((ledP cs A).take i) ((ledP cs A).drop (i + 1)) c (by rw [← edr, List.take_append_drop]) n hn
          obtain ⟨d, hd, rfl⟩ := List.mem_map.mp hb
          have hk := base_sub W.wr c h1 d.nm hn
          exact List.mem_map.mpr ⟨d, List.mem_filter.mpr ⟨hd, decide_eq_true (cB.clo c.nm hB d.nm (by rw [knOf_own W.wr h1]; exact hk))⟩, rfl⟩
        obtain ⟨d, hf, _, _⟩ := findC_mem hnS
        show ∃ x, Aw.W.d (.bool (dget (kv1 (S i)) (nmD n)).isSome) = _ ∧ _
        rw [kv1_get, hf]
        exact ⟨_, rfl, rfl, hy⟩
      · rw [show (if true = true then c.base.all (fun _ => true) else c.base.any fun _ => true) = true by simp]
        and_intros
        refine r_ixT (x := nmD c.nm) at0 ?_
        have lS : (S i).length ≤ 16 := by
          have := List.length_filter_le (fun c : Ch => decide (c.nm ∈ B)) ((ledP cs A).take i)
          rw [List.length_take] at this
          show (List.filter _ _).length ≤ _
          omega
        refine r_put g1 rfl (small' (by rw [List.length_map]; omega)) ?_
        refine k _ _ ⟨_, _, _, rfl, ?_⟩
        rw [List.set_append_right _ _ (by omega), show σ.length + 1 - σ.length = 1 by omega]
        show σ ++ [Cell.dct true (kv1 (ledP cs B)), Cell.dct true (dput (kv1 (S i)) (nmD c.nm) (.d (Mw.chD c)))] = _
        rw [eS, if_pos hB, kv1_put]
        intro z
        obtain ⟨d, hd, e⟩ := List.mem_map.mp z
        have hdt := (List.mem_filter.mp hd).1
        have ndA := ledP_nd nd A
        have en : names (ledP cs A) = names ((ledP cs A).take i) ++ names ((ledP cs A).drop i) := by rw [← List.map_append, List.take_append_drop]
        rw [en] at ndA
        refine (List.nodup_append.mp ndA).2.2 c.nm (List.mem_map.mpr ⟨d, hdt, e⟩) c.nm (List.mem_map.mpr ⟨c, ?_, rfl⟩) rfl
        rw [List.drop_eq_getElem_cons hi]
        rw [List.getElem?_eq_getElem hi] at hc
        cases hc
        exact List.mem_cons_self ..
    · rw [if_neg hB]
      and_intros
      refine r_2 ⟨⟨by decide +kernel, shCh (W.ok c h1)⟩, ?_⟩
      show agN 5 (.d (.bool (PyData.eqv .none (Mw.chD c)))) _ _ _
      rw [show PyData.eqv .none (Mw.chD c) = false by simp [PyData.eqv, Mw.chD]]
      and_intros
      refine k _ _ ⟨_, _, _, rfl, ?_⟩
      rw [eS, if_neg hB]
  · obtain ⟨v4, v5, v6, rfl, rfl⟩ := h
    refine ⟨True.intro, ?_⟩
    and_intros
    rw [List.length_map]
    have eF : S (ledP cs A).length = ledP cs (A.filter fun n => decide (n ∈ B)) := by
      show ((ledP cs A).take _).filter _ = _
      rw [List.take_length, led_sub]
    rw [eF]
    refine ⟨_, rfl, σ.length + 1, kv1 (ledP cs (A.filter fun n => decide (n ∈ B))), (ledP cs (A.filter fun n => decide (n ∈ B))).map Mw.chD, rfl, (by simp), ?_, key⟩
    rw [show (kv1 (ledP cs (A.filter fun n => decide (n ∈ B)))).map (·.2) = ((ledP cs (A.filter fun n => decide (n ∈ B))).map Mw.chD).map .d by simp [kv1]]
    exact pures_map _
theorem ins_new {l : List Nm} {m : Nm} (h : m ∉ l) : ins l m = l ++ [m] := by unfold ins; rw [if_neg h]
/-! ### roads -/
structure Rdd (cs : List Ch) (rd : List Nm) : Prop where
  nd : rd.Nodup
  all : ∀ m, m ∈ rd ↔ m ∈ names cs
  ord : ∀ (i : Nat) (m : Nm), rd[i]? = some m → ∀ k ∈ knOf cs m, k ∈ rd.take i
theorem Rdd.len {cs : List Ch} {rd : List Nm} (r : Rdd cs rd) (nd : (names cs).Nodup) : rd.length = cs.length := by
  have h : rd.Perm (names cs) := (List.perm_ext_iff_of_nodup r.nd nd).mpr r.all
  rw [h.length_eq]
  simp [names]
theorem Rdd.clp {cs : List Ch} {rd : List Nm} (r : Rdd cs rd) (j : Nat) : ClP cs (rd.take j) := by
  refine ⟨fun m hm => (r.all m).mp (List.mem_of_mem_take hm), fun m hm k hk => ?_⟩
  obtain ⟨i, hi⟩ := List.getElem?_of_mem hm
  have hl := (List.getElem?_eq_some_iff.mp hi).1
  rw [List.length_take] at hl
  rw [List.getElem?_take_of_lt (by omega)] at hi
  have := r.ord i m hi k hk
  have e : rd.take i = (rd.take j).take i := by rw [List.take_take, Nat.min_eq_left (by omega)]
  rw [e] at this
  exact List.mem_of_mem_take this
theorem led_whole {cs : List Ch} (A : List Nm) (h : ∀ n ∈ names cs, n ∈ A) : ledP cs A = ledP cs (names cs) := ledP_congr fun n hn => ⟨fun _ => hn, fun _ => h n hn⟩
theorem led_all_len {cs : List Ch} (nd : (names cs).Nodup) : (ledP cs (names cs)).length = cs.length := by
  have e : (names (ledP cs (names cs))).length = cs.length := by
    rw [ledP_names nd, List.filter_eq_self.mpr fun n hn => decide_eq_true (mem_srt.mp hn), srt_len]
    simp [names]
  simpa [names] using e
def fIsr : AF := fun ws σ Q _ => ∃ zs cs rd, ws = [.d (ledD (ledP cs (names cs))), .d (.tuple (rd.map nmD))] ∧ Wld zs cs ∧ Rdd cs rd ∧ Q (.d (.bool true)) σ
instance : MoF fIsr := ⟨fun k ⟨a, b, c, h, h1, h2, q⟩ => ⟨a, b, c, h, h1, h2, k _ _ q⟩⟩
theorem isr_ok : ∀ ws σ Q X, fIsr ws σ Q X → aFn 6 (p15Isr fIsn fBy) ws σ (fun w σ' => Told σ.length σ σ' w Q) X := by
  rintro ws σ Q X ⟨zs, cs, rd, rfl, W, R, q⟩
  generalize hQ : (fun w σ' => Told σ.length σ σ' w Q) = Q'
  have key : ∀ {j : Sto}, Q' (.d (.bool true)) (σ ++ j) := fun {j} => by rw [← hQ]; exact told_d q
  clear hQ q
  have nd := W.nd
  have f16 := W.few
  have rl := R.len nd
  have ll := led_all_len nd
  and_intros
  refine r_isiV (d := .tuple (rd.map nmD)) rfl (by nofun) (b := true) rfl ?_
  and_intros
  refine r_nt ?_
  and_intros
  rw [decide_eq_true (by rw [List.length_map, List.length_map]; omega)]
  refine r_nt ?_
  and_intros
  refine ⟨ledP cs (names cs), rfl, by omega, ledP_nd nd _, ?_⟩
  and_intros
  rw [mapW]
  refine loop_run (fun i e s => ∃ v4 v5, e = [some (.d (ledD (ledP cs (names cs)))), some (.d (.tuple (rd.map nmD))), some (.ref σ.length), some (.ref (σ.length + 1)), v4, v5] ∧ s = σ ++ [.dct true (kv1 (ledP cs (names cs))), .dct true (kvY (rd.take i))]) ⟨none, none, by simp [aStart], by simp [kvY]⟩ (fun i w e s Rest hw h k => ?_) fun e s h => ?_
  · obtain ⟨v4, v5, rfl, rfl⟩ := h
    rw [List.getElem?_map] at hw
    obtain ⟨m, hm, rfl⟩ := Option.map_eq_some_iff.mp hw
    have hmR := List.mem_of_getElem? hm
    have hmN := (R.all m).mp hmR
    obtain ⟨c, hf, hc, e⟩ := findC_mem hmN
    subst e
    have hi := (List.getElem?_eq_some_iff.mp hm).1
    have g0 : (σ ++ [Cell.dct true (kv1 (ledP cs (names cs))), Cell.dct true (kvY (rd.take i))])[σ.length]? = some (.dct true (kv1 (ledP cs (names cs)))) := by simp
    have g1 : (σ ++ [Cell.dct true (kv1 (ledP cs (names cs))), Cell.dct true (kvY (rd.take i))])[σ.length + 1]? = some (.dct true (kvY (rd.take i))) := by simp
    have nin : c.nm ∉ rd.take i := fun z => by
      have en : rd = rd.take i ++ rd.drop i := (List.take_append_drop i rd).symm
      have ndR := R.nd
      rw [en] at ndR
      refine (List.nodup_append.mp ndR).2.2 c.nm z c.nm ?_ rfl
      rw [List.drop_eq_getElem_cons hi]
      rw [List.getElem?_eq_getElem hi] at hm
      rw [Option.some.inj hm]
      exact List.mem_cons_self ..
    refine ⟨True.intro, ?_⟩
    and_intros
    refine ⟨c.nm, rfl, W.nk _ hmN, ?_⟩
    and_intros
    refine r_nt ?_
    and_intros
    refine r_inD (kvs := kv1 (ledP cs (names cs))) (by simp only [prsOf, g0]) (kc_nm (f := Ch.nm) (g := fun c => Aw.W.d (Mw.chD c)) _ c.nm) ?_
    rw [get_led nd hc, if_pos hmN]
    refine r_tbool ?_
    refine r_iteF ?_
    and_intros
    refine r_inD (kvs := kvY (rd.take i)) (by simp only [prsOf, g1]) (kc_Y _ _) ?_
    rw [get_Y, if_neg nin]
    refine r_tbool ?_
    refine r_iteF ?_
    and_intros
    with_reducible refine r_allG ?_
    and_intros
    refine r_ixD (kvs := kv1 (ledP cs (names cs))) (by simp only [prsOf, g0]) (kc_nm (f := Ch.nm) (g := fun c => Aw.W.d (Mw.chD c)) _ c.nm) (by rw [get_led nd hc, if_pos hmN]) ?_
    and_intros
    refine r_ixT (x := .tuple (c.base.map nmD)) rfl ?_
    and_intros
    rw [mapW]
    refine @ag_fm Nm _ _ _ _ _ _ _ _ _ _ _ true c.base (fun n => .d (nmD n)) (fun _ => true) ?_ ?_ ?_
    · exact True.intro
    · intro n hn Y hy
      and_intros
      refine ⟨rfl, ?_⟩
      and_intros
      refine r_inD (kvs := kvY (rd.take i)) (by simp only [prsOf, g1]) (kc_Y _ _) ?_
      have hnS : n ∈ rd.take i := R.ord i c.nm hm n (by rw [knOf_own W.wr hc]; exact base_sub W.wr c hc n hn)
      rw [get_Y, if_pos hnS]
      exact ⟨_, rfl, rfl, hy⟩
    · rw [show (if true = true then c.base.all (fun _ => true) else c.base.any fun _ => true) = true by simp]
      and_intros
      refine r_nt ?_
      and_intros
      refine r_put g1 rfl (small' (by rw [List.length_map, List.length_take]; omega)) ?_
      refine k _ _ ⟨_, _, rfl, ?_⟩
      rw [List.set_append_right _ _ (by omega), show σ.length + 1 - σ.length = 1 by omega]
      show σ ++ [Cell.dct true (kv1 (ledP cs (names cs))), Cell.dct true (dput (kvY (rd.take i)) (nmD c.nm) (.d (.bool true)))] = _
      rw [take_snoc hm, put_Y, ins_new nin]
  · obtain ⟨v4, v5, rfl, rfl⟩ := h
    refine ⟨True.intro, ?_⟩
    and_intros
    exact key
end Lw

set_option maxHeartbeats 4000000
/-! L15C: k15: the road of the law. -/
namespace Lw
open PySem PySem.Spec PyProof.Rows L2 Mw Aw
theorem while_run {ft : AT} {body : AS} {k : AK} (I : Nat → Ev → Sto → Prop) {m : Nat} {e : Ev} {σ : Sto} (h0 : I m e σ)
    (step : ∀ (m : Nat) (e : Ev) (s : Sto) (Rest : Ev → Sto → Prop), I m e s → (∀ m' e' s', m' < m → I m' e' s' → Rest e' s') → ft e s (fun c s1 => if c = true then body { k with nx := Rest } e s1 else k.nx e s1) (k.ex e)) : aWhile ft body k e σ := by
  have all : ∀ (n m : Nat) (e : Ev) (s : Sto), m < n → I m e s → aWh ft body k n e s := by
    intro n
    induction n with
    | zero => intro m e s h; omega
    | succ n ih => intro m e s h hI; exact step m e s (aWh ft body k n) hI fun m' e' s' h1 h2 => ih m' e' s' (by omega) h2
  exact ⟨m + 1, all (m + 1) m e σ (by omega) h0⟩
theorem dat_lst {σ : Sto} {i : Nat} {ds : List PyData} (h : σ[i]? = some (.lst (ds.map .d))) : dat σ (.ref i) = some (.list ds) := by
  simp only [dat, h, pures_map]
  rfl
theorem r_inC {n : Bool} {x : PyData} {l : List Nm} {i : Nat} {σ : Sto} {Q : QK} (hc : σ[i]? = some (.lst (nmW l))) (h1 : SeqAt.shaped x = true) (h2 : SeqAt.shaped (.tuple (l.map nmD)) = true)
    (h : Q (.d (.bool (if n then !(l.map nmD).any (fun z => PyData.eqv z x) else (l.map nmD).any (fun z => PyData.eqv z x)))) σ) : inW n (.d x) (.ref i) σ Q := by
  refine ⟨x, rfl, ?_⟩
  have e : prsOf σ (.ref i) = none := by simp only [prsOf, hc]
  rw [e]
  exact ⟨_, by unfold seqOf; rw [dat_nm hc], h1, h2, h⟩
theorem er_map {α β : Type} (f : α → β) : ∀ (l : List α) (i : Nat), (l.eraseIdx i).map f = (l.map f).eraseIdx i
  | [], _ => rfl
  | _ :: _, 0 => rfl
  | a :: l, i + 1 => by simp only [List.eraseIdx_cons_succ, List.map_cons, er_map f l i]
theorem fst_nm {l : List Nm} (nd : l.Nodup) {m : Nm} (h : m ∈ l) : Fst (l.map nmD) (nmD m) (l.idxOf m) := by
  have hl := List.idxOf_lt_length_of_mem h
  have e : l[l.idxOf m]? = some m := by rw [List.getElem?_eq_getElem hl, List.getElem_idxOf]
  refine ⟨⟨nmD m, by rw [List.getElem?_map, e]; rfl, by rw [eqv_nm]; simp⟩, fun k z hk hz => ?_⟩
  rw [List.getElem?_map] at hz
  obtain ⟨x, hx, rfl⟩ := Option.map_eq_some_iff.mp hz
  rw [eqv_nm]
  refine decide_eq_false fun z => ?_
  subst z
  have := (List.getElem?_inj (by omega) nd).mp (hx.trans e.symm)
  omega
/-- a name all of whose known ones are laid is there -/
theorem ready_ne {zs : List Str} {cs : List Ch} (w : Wr zs cs) {l : List Nm} (hl : ∀ m ∈ l, m ∈ names cs) (ne : l ≠ []) : (l.filter fun m => decide ((knOf cs m).filter (fun k => decide (k ∈ l)) = [])) ≠ [] := by
  intro h
  have no : ∀ m ∈ l, ∃ k ∈ l, k.1.toNat < m.1.toNat := fun m hm => by
    have h1 := List.filter_eq_nil_iff.mp h m hm
    have h2 : ¬ ((knOf cs m).filter (fun k => decide (k ∈ l)) = []) := fun z => h1 (decide_eq_true z)
    obtain ⟨k, hk⟩ := List.exists_mem_of_ne_nil _ h2
    obtain ⟨h3, h4⟩ := List.mem_filter.mp hk
    obtain ⟨c, hf, hc, e⟩ := findC_mem (hl m hm)
    rw [knOf_eq hf] at h3
    have h5 := cnt_lt w c hc k h3
    have h6 := hl k (of_decide_eq_true h4)
    obtain ⟨d, hd, e2⟩ := List.mem_map.mp h6
    have h7 := wr_one w d hd
    rw [e] at h5
    have h8 : 1 ≤ k.1 := by rw [← e2]; exact h7
    exact ⟨k, of_decide_eq_true h4, by omega⟩
  have all : ∀ (n : Nat) (m : Nm), m ∈ l → m.1.toNat ≤ n → False := by
    intro n
    induction n with
    | zero => intro m hm h0; obtain ⟨k, _, hk⟩ := no m hm; omega
    | succ n ih => intro m hm h0; obtain ⟨k, hkl, hk⟩ := no m hm; exact ih k hkl (by omega)
  obtain ⟨m, hm⟩ := List.exists_mem_of_ne_nil _ ne
  exact all _ m hm (Nat.le_refl _)
structure RdI (cs : List Ch) (l rd : List Nm) : Prop where
  nl : l.Nodup
  nr : rd.Nodup
  mem : ∀ m, m ∈ names cs ↔ m ∈ l ∨ m ∈ rd
  dis : ∀ m ∈ l, m ∉ rd
  ord : ∀ (i : Nat) (m : Nm), rd[i]? = some m → ∀ k ∈ knOf cs m, k ∈ rd.take i
theorem RdI.step {zs : List Str} {cs : List Ch} (w : Wr zs cs) {l rd : List Nm} (r : RdI cs l rd) {m : Nm} (hm : m ∈ l) (hk : (knOf cs m).filter (fun k => decide (k ∈ l)) = []) : RdI cs (l.erase m) (rd ++ [m]) := by
  refine ⟨r.nl.erase m, ?_, fun x => ?_, fun x hx => ?_, fun i x hx k hk' => ?_⟩
  · refine List.nodup_append.mpr ⟨r.nr, by simp, fun a ha b hb e => ?_⟩
    rw [List.mem_singleton] at hb
    subst hb e
    exact r.dis a hm ha
  · rw [r.mem, r.nl.mem_erase_iff, List.mem_append, List.mem_singleton]
    by_cases e : x = m
    · subst e; simp [hm]
    · simp [e]
  · obtain ⟨h1, h2⟩ := (r.nl.mem_erase_iff).mp hx
    simp only [List.mem_append, List.mem_singleton, not_or]
    exact ⟨r.dis x h2, h1⟩
  · by_cases hi : i < rd.length
    · rw [List.getElem?_append_left hi] at hx
      rw [List.take_append_of_le_length (by omega)]
      exact r.ord i x hx k hk'
    · have hl := (List.getElem?_eq_some_iff.mp hx).1
      rw [List.length_append, List.length_singleton] at hl
      have ei : i = rd.length := by omega
      subst ei
      rw [List.getElem?_append_right (Nat.le_refl _)] at hx
      have ex : x = m := by simpa using hx.symm
      subst ex
      rw [List.take_append_of_le_length (Nat.le_refl _), List.take_length]
      have hkn : k ∈ names cs := kn_names w ((r.mem x).mpr (.inl hm)) hk'
      rcases (r.mem k).mp hkn with z | z
      · have := List.filter_eq_nil_iff.mp hk k hk'
        exact absurd (decide_eq_true z) this
      · exact z
theorem RdI.len {cs : List Ch} (nd : (names cs).Nodup) {l rd : List Nm} (r : RdI cs l rd) : l.length + rd.length = cs.length := by
  have h1 : (l ++ rd).Nodup := List.nodup_append.mpr ⟨r.nl, r.nr, fun a ha b hb e => r.dis a ha (e ▸ hb)⟩
  have h : (l ++ rd).Perm (names cs) := (List.perm_ext_iff_of_nodup h1 nd).mpr fun m => by rw [List.mem_append, r.mem]
  have := h.length_eq
  rw [List.length_append] at this
  simpa [names] using this
def fRoad : AF := fun ws σ Q _ => ∃ F n cs zs c, ws = [.ref F, .ref n, .d (.list ((srt (names cs)).map nmD))] ∧ σ[F]? = some c ∧ IsFeed c ∧ Off F n ∧ WdA σ n cs ∧ Wld zs cs ∧
  ∀ rd c', Rdd cs rd → IsFeed c' → Q (.d (.tuple (rd.map nmD))) (σ.set F c')
instance : MoF fRoad := ⟨fun k ⟨F, n, cs, zs, c, h1, h2, h3, h4, h5, h6, q⟩ => ⟨F, n, cs, zs, c, h1, h2, h3, h4, h5, h6, fun a b c d => k _ _ (q a b c d)⟩⟩
theorem road_ok : ∀ ws σ Q X, fRoad ws σ Q X → aFn 9 (p15Road fDraw) ws σ (fun w σ' => Told σ.length σ σ' w Q) X := by
  rintro ws σ Q X ⟨F, n, cs, zs, c, rfl, hc, hf, of, wd, W, q⟩
  have hF : F < σ.length := (List.getElem?_eq_some_iff.mp hc).1
  generalize hQ : (fun w σ' => Told σ.length σ σ' w Q) = Q'
  have key : ∀ {rd : List Nm} {c' : Cell} {j : Sto}, Rdd cs rd → IsFeed c' → Q' (.d (.tuple (rd.map nmD))) (Sx σ F c' j) := fun {rd c' j} h1 h2 => by rw [← hQ]; exact told_x h2 (q rd c' h1 h2)
  clear hQ q
  have f16 := W.few
  have nd := W.nd
  rw [show aFn 9 (p15Road fDraw) [.ref F, .ref n, .d (.list ((srt (names cs)).map nmD))] σ Q' X = aFn 9 (p15Road fDraw) [.ref F, .ref n, .d (.list ((srt (names cs)).map nmD))] (Sx σ F c []) Q' X by rw [← sx_start hc]]
  have W1 : ∀ {c j}, WdA (Sx σ F c j) n cs := fun {c j} => wd.sx of
  and_intros
  refine ⟨_, _, rfl, rfl, ?_⟩
  rw [sx_app, sx_len]
  and_intros
  refine ⟨Nat.zero_le _, ?_⟩
  rw [sx_app, sx_len]
  and_intros
  refine r_draw hF hf (by decide) (by decide) fun r c1 r0 r3 hf1 => ?_
  obtain ⟨way, rfl⟩ : ∃ j : Nat, r = (j : Int) := ⟨r.toNat, (Int.toNat_of_nonneg r0).symm⟩
  have way3 : way < 3 := by omega
  and_intros
  have i0 : RdI cs (srt (names cs)) [] := ⟨srt_nodup nd, List.nodup_nil, fun m => by rw [mem_srt]; simp, fun m _ h => by simp at h, fun i m h => by simp at h⟩
  refine while_run (fun k e s => ∃ l rd c v6 v7 v8, e = [some (.ref F), some (.ref n), some (.d (.list ((srt (names cs)).map nmD))), some (.ref σ.length), some (.ref (σ.length + 1)), some (.d (.int way)), v6, v7, v8] ∧
    s = Sx σ F c [.lst (nmW l), .lst (nmW rd)] ∧ IsFeed c ∧ RdI cs l rd ∧ k = l.length) ⟨srt (names cs), [], c1, none, none, none, rfl, by simp [nmW], hf1, i0, rfl⟩ fun k e s Rest h kk => ?_
  obtain ⟨l, rd, c2, v6, v7, v8, rfl, rfl, hf2, I, rfl⟩ := h
  have hlN : ∀ m ∈ l, m ∈ names cs := fun m hm => (I.mem m).mpr (.inl hm)
  have hlW : ∀ m ∈ l, Wrd m.2 := fun m hm => (W.nk m (hlN m hm)).wrd
  have lsum := I.len nd
  have gL : ∀ {c j}, (Sx σ F c (.lst (nmW l) :: j))[σ.length]? = some (.lst (nmW l)) := fun {c j} => by rw [sx_j0]; rfl
  and_intros
  refine r_pures rfl (Nat.zero_le _) ?_
  refine r_2C (dat_nm gL) rfl ?_
  refine ⟨⟨shNms hlW, by decide +kernel⟩, ?_⟩
  show tstB _ (.d (.bool (!PyData.eqv (.list (l.map nmD)) (.list [])))) _
  rw [eqvNilN]
  refine r_tbool ?_
  by_cases hl0 : l = []
  · subst hl0
    refine r_iteF ?_
    and_intros
    refine ⟨_, _, _, rfl, by simp only [itemsOf, sx_j]; rfl, pures_nm rd, ?_⟩
    exact key ⟨I.nr, fun m => by rw [I.mem]; simp, I.ord⟩ hf2
  rw [decide_eq_false hl0]
  refine r_iteT ?_
  and_intros
  refine .inl ⟨_, gL, ?_⟩
  have rne := ready_ne W.wr hlN hl0
  refine lc_fm l (fun m => .d (nmD m)) (fun m => if decide ((knOf cs m).filter (fun k => decide (k ∈ l)) = []) = true then some (nmD m) else none) (fun j => by rw [sx_app]; exact gL) (by omega) (fun m hm j Y N hy hno => ?_) ?_
  · obtain ⟨ch, hfc, hch, ex⟩ := findC_mem (hlN m hm)
    have kl := kn_len W.wr f16 ch hch
    rw [sx_app]
    and_intros
    refine ix_kn W1 ?_
    and_intros
    refine ix_knN W1 hfc ?_
    and_intros
    rw [mapW]
    refine lc_fm ch.kn (fun m => .d (nmD m)) (fun m => if decide (m ∈ l) = true then some (nmD m) else none) (fun j => True.intro) (by omega) (fun k hk j' Y' N' hy' hno' => ?_) ?_
    · rw [sx_app]
      and_intros
      refine r_inC gL (shNm (W.nk k (kn_names W.wr (hlN m hm) (by rw [knOf_eq hfc]; exact hk))).wrd) (shNmsT hlW) ?_
      show tstB _ (.d (.bool ((l.map nmD).any fun z => PyData.eqv z (nmD k)))) _
      rw [any_nm]
      refine r_tbool ?_
      refine r_ite (fun hk => ?_) fun hk => ?_
      · and_intros
        exact ⟨_, rfl, rfl, hy' _ (by simp [hk])⟩
      · exact ⟨rfl, hno' (by simp [hk])⟩
    · rw [fm_ite]
      and_intros
      refine r_pures rfl (Nat.zero_le _) ?_
      refine r_2 ⟨⟨shNms (fun x hx => hlW x (of_decide_eq_true (List.mem_filter.mp hx).2)), by decide +kernel⟩, ?_⟩
      show tstB _ (.d (.bool (PyData.eqv (.list ((ch.kn.filter fun k => decide (k ∈ l)).map nmD)) (.list [])))) _
      rw [eqvNilN]
      refine r_tbool ?_
      rw [knOf_eq hfc] at hy hno
      refine r_ite (fun hk => ?_) fun hk => ?_
      · and_intros
        exact ⟨_, rfl, rfl, hy _ (by simp [hk])⟩
      · exact ⟨rfl, hno (by simp [hk])⟩
  · rw [fm_ite]
    have rd1 : ∀ m ∈ l.filter (fun m => decide ((knOf cs m).filter (fun k => decide (k ∈ l)) = [])), m ∈ l ∧ (knOf cs m).filter (fun k => decide (k ∈ l)) = [] := fun m hm => ⟨(List.mem_filter.mp hm).1, of_decide_eq_true (List.mem_filter.mp hm).2⟩
    have rl := List.length_filter_le (fun m => decide ((knOf cs m).filter (fun k => decide (k ∈ l)) = [])) l
    generalize l.filter (fun m => decide ((knOf cs m).filter (fun k => decide (k ∈ l)) = [])) = rs at rne rd1 rl ⊢
    have rpos : 0 < rs.length := List.length_pos_iff.mpr rne
    and_intros
    refine r_draw hF hf2 (by rw [List.length_map]; omega) (by rw [List.length_map]; omega) fun r' c6 r0' r1' hf6 => ?_
    rw [List.length_map] at r1'
    and_intros
    rw [List.length_map]
    refine r_pures rfl (by show 3 ≤ sizeLine; decide) ?_
    and_intros
    obtain ⟨x, hx, x0, x1⟩ : ∃ x : Nat, [PyData.int r', .int 0, .int ((rs.length : Int) - 1)][way]? = some (.int x) ∧ x < rs.length ∧ True := by
      match way, way3 with
      | 0, _ => exact ⟨r'.toNat, by simp; omega, by omega, True.intro⟩
      | 1, _ => exact ⟨0, rfl, by omega, True.intro⟩
      | 2, _ => exact ⟨rs.length - 1, by simp; omega, by omega, True.intro⟩
    refine r_ixL (x := .int x) (atI_nat hx) ?_
    refine r_ixL (x := nmD rs[x]) (atI_nat (by rw [List.getElem?_map, List.getElem?_eq_getElem x0]; rfl)) ?_
    obtain ⟨hml, hmk⟩ := rd1 rs[x] (List.getElem_mem _)
    generalize rs[x] = m at hml hmk ⊢
    and_intros
    refine r_tyC gL ?_
    and_intros
    refine r_rem gL (pures_nm l) (shNms hlW) (shNm (hlW m hml)) (fst_nm I.nl hml) ?_
    rw [sx_sj0]
    and_intros
    refine r_tyC (ws := nmW rd) (by rw [sx_j]; rfl) ?_
    and_intros
    refine r_append (ws := nmW rd) (by rw [sx_j]; rfl) (small' (by simp; omega)) ?_
    rw [sx_sj]
    refine kk (l.erase m).length _ _ (by rw [List.length_erase_of_mem hml]; have := List.length_pos_of_mem hml; omega) ⟨l.erase m, rd ++ [m], c6, _, _, _, rfl, ?_, hf6, I.step W.wr hml hmk, rfl⟩
    show Sx σ F c6 [Cell.lst ((nmW l).eraseIdx (l.idxOf m)), Cell.lst (nmW rd ++ [Aw.W.d (nmD m)])] = _
    rw [List.erase_eq_eraseIdx_of_idxOf (rfl : l.idxOf m = l.idxOf m), show nmW (l.eraseIdx (l.idxOf m)) = (nmW l).eraseIdx (l.idxOf m) from er_map ..]
    simp [nmW]
end Lw

set_option maxHeartbeats 4000000
/-! L15D: k15: a stage is right; the stages of a road; lumps. -/
namespace Lw
open PySem PySem.Spec PyProof.Rows L2 Mw Aw
theorem r_noB {b : Bool} {fa : AE} {e : Ev} {σ : Sto} {Q : QK} {X : XQ} (h : fa e σ (fun x σ1 => ∃ c, x = .d (.bool c) ∧ Q (.d (.bool (c != b))) σ1) X) : aNoB b fa e σ Q X := h
theorem r_ff {p q : Prop} (h : q) : if (true != true) = true then p else q := h
theorem atI_last {α : Type} (xs : List α) (x : α) : atI (xs ++ [x]) (-1) = some x := by
  unfold atI
  have e : ixN (xs ++ [x]).length (-1) = some xs.length := by
    simp [ixN]
    omega
  rw [e]
  simp
theorem led_nms {cs : List Ch} (nd : (names cs).Nodup) {A : List Nm} (hA : A.Nodup) (h : ∀ m ∈ A, m ∈ names cs) : names (ledP cs A) = srt A := by
  refine sorted_mem (ledP_nd nd A) (srt_nodup hA) (fun n => ?_) (ledP_so nd A) (srt_sorted _)
  rw [ledP_names nd, List.mem_filter, mem_srt, mem_srt]
  constructor
  · rintro ⟨_, h⟩; exact of_decide_eq_true h
  · intro z; exact ⟨h n z, decide_eq_true z⟩
theorem Wld.shw {zs : List Str} {cs : List Ch} (W : Wld zs cs) (A : List Nm) : Shw (ledD (ledP cs A)) := by
  have := W.few
  have := ledP_len cs A
  exact shw_part W.wr W.ww (by omega) (fun c hc => ledP_mem hc) (by omega)
theorem Wld.wrd {zs : List Str} {cs : List Ch} (W : Wld zs cs) {n : Nm} (h : n ∈ names cs) : Wrd n.2 := (W.nk n h).wrd
theorem clp_all {zs : List Str} {cs : List Ch} (W : Wld zs cs) : ClP cs (names cs) := ⟨fun m hm => hm, fun m hm k hk => kn_names W.wr hm hk⟩
def fSrt : AF := fun ws σ Q _ => ∃ zs cs ns i, ws = [.d (ledD (ledP cs (names cs))), .d (ledD (ledP cs ns)), .ref i] ∧ σ[i]? = some (.lst (nmW ns)) ∧ Wld zs cs ∧ ClP cs ns ∧ ns.Nodup ∧ ns.length ≤ 100 ∧ Q (.d (.bool true)) σ
instance : MoF fSrt := ⟨fun k ⟨a, b, c, d, h, h1, h2, h3, h4, h5, q⟩ => ⟨a, b, c, d, h, h1, h2, h3, h4, h5, k _ _ q⟩⟩
theorem srt_ok : ∀ ws σ Q X, fSrt ws σ Q X → aFn 4 (p15Srt fTops fKnw fRbn fPrt) ws σ Q X := by
  rintro ws σ Q X ⟨zs, cs, ns, i, rfl, hi, W, cl, nn, nl, q⟩
  have nd := W.nd
  have f16 := W.few
  have lA := ledP_len cs ns
  have hw : ∀ m ∈ ns, Wrd m.2 := fun m hm => W.wrd (cl.inn m hm)
  have en := led_nms nd nn cl.inn
  and_intros
  refine r_noB ?_
  and_intros
  refine ⟨zs, cs, ns, names cs, rfl, W, fun c hc _ => List.mem_map.mpr ⟨c, hc, rfl⟩, ?_⟩
  refine ⟨true, rfl, ?_⟩
  and_intros
  refine r_ff ?_
  and_intros
  refine ⟨ledP cs ns, rfl, by omega, ?_⟩
  and_intros
  refine ⟨_, _, _, rfl, rfl, pures_map _, ?_⟩
  and_intros
  refine r_srtL (dat_nm hi) ?_
  rw [en]
  have sh := shNms (l := srt ns) fun m hm => hw m (mem_srt.mp hm)
  refine r_2 ⟨⟨sh, sh⟩, ?_⟩
  show tstB _ (.d (.bool (!PyData.eqv (.list ((srt ns).map nmD)) (.list ((srt ns).map nmD))))) _
  rw [sh_eqv sh, Bool.not_true]
  refine r_tbool ?_
  refine r_iteF ?_
  and_intros
  refine .inl ⟨_, hi, ?_⟩
  refine loop_run (fun j e s => ∃ v3, e = [some (.d (ledD (ledP cs (names cs)))), some (.d (ledD (ledP cs ns))), some (.ref i), v3] ∧ s = σ) ⟨none, rfl, rfl⟩ (fun j w e s Rest hw' h k => ?_) fun e s h => ?_
  · obtain ⟨v3, rfl, rfl⟩ := h
    rw [show nmW ns = ns.map (fun m => Aw.W.d (nmD m)) from rfl] at hw'
    rw [List.getElem?_map] at hw'
    obtain ⟨m, hm, rfl⟩ := Option.map_eq_some_iff.mp hw'
    have hmn := List.mem_of_getElem? hm
    obtain ⟨c, hf, hc, e⟩ := findC_mem (cl.inn m hmn)
    subst e
    refine ⟨hi, ?_⟩
    and_intros
    refine ⟨zs, cs, ns, c, rfl, W, cl, hc, hmn, ?_⟩
    and_intros
    refine r_repr (W.shw _) ?_
    and_intros
    refine ⟨zs, cs, names cs, c, rfl, W, clp_all W, hc, cl.inn _ hmn, ?_⟩
    and_intros
    refine r_repr (W.shw _) ?_
    and_intros
    rw [decide_eq_true rfl]
    refine r_iteF ?_
    and_intros
    exact k _ _ ⟨_, rfl, rfl⟩
  · obtain ⟨v3, rfl, rfl⟩ := h
    refine ⟨hi, ?_⟩
    and_intros
    refine ⟨ledP cs ns, rfl, by omega, fun c hc => Nat.le_trans (W.ok c (ledP_mem hc)).bl (by decide), ?_⟩
    and_intros
    rw [mapW]
    have tn : ∀ m ∈ topsP (ledP cs ns), m ∈ ns := fun m hm => by
      have h1 := (List.mem_filter.mp hm).1
      rw [en] at h1
      exact mem_srt.mp h1
    have tl : (topsP (ledP cs ns)).length ≤ 16 := by
      have := List.length_filter_le (fun n => !decide (n ∈ (ledP cs ns).flatMap (·.base))) (names (ledP cs ns))
      rw [List.length_map] at this
      show (List.filter _ _).length ≤ _
      omega
    refine lc_fm (topsP (ledP cs ns)) (fun m => .d (nmD m)) (fun _ => none) (fun _ => True.intro) (by omega) (fun m hm j Y N hy hno => ?_) ?_
    · and_intros
      refine r_inC (l := ns) (by rw [List.getElem?_append_left (List.getElem?_eq_some_iff.mp hi).1]; exact hi) (shNm (hw m (tn m hm))) (shNmsT hw) ?_
      show tstB _ (.d (.bool (!(ns.map nmD).any fun z => PyData.eqv z (nmD m)))) _
      rw [any_nm, decide_eq_true (tn m hm)]
      refine r_tbool ?_
      refine r_iteF ?_
      exact ⟨rfl, hno rfl⟩
    · rw [show (topsP (ledP cs ns)).filterMap (fun _ => (none : Option PyData)) = [] by simp]
      and_intros
      refine r_pures rfl (Nat.zero_le _) ?_
      refine r_2 ⟨⟨by decide +kernel, by decide +kernel⟩, ?_⟩
      exact q
end Lw

set_option maxHeartbeats 4000000
/-! L15E: k15: the stages of a road; lumps. -/
namespace Lw
open PySem PySem.Spec PyProof.Rows L2 Mw Aw
abbrev stg (cs : List Ch) (rd : List Nm) (k : Nat) : List PyData := (List.range k).map fun j => ledD (ledP cs (rd.take j))
theorem stg_snoc (cs : List Ch) (rd : List Nm) (k : Nat) : stg cs rd (k + 1) = stg cs rd k ++ [ledD (ledP cs (rd.take k))] := by
  simp [stg, List.range_succ]
theorem clp_laid {zs : List Str} {cs : List Ch} (W : Wld zs cs) {c : Ch} (hc : c ∈ cs) : ClP cs (c.kn ++ [c.nm]) := by
  have hn : c.nm ∈ names cs := List.mem_map.mpr ⟨c, hc, rfl⟩
  have ek := knOf_own W.wr hc
  refine ⟨fun m hm => ?_, fun m hm k hk => ?_⟩
  · rcases List.mem_append.mp hm with h | h
    · exact kn_names W.wr hn (by rw [ek]; exact h)
    · rw [List.mem_singleton.mp h]; exact hn
  · rcases List.mem_append.mp hm with h | h
    · exact List.mem_append_left _ (kn_trans W.wr c hc m h k hk)
    · rw [List.mem_singleton.mp h, ek] at hk
      exact List.mem_append_left _ hk
def fByr : AF := fun ws σ Q _ => ∃ F cs zs rd c, ws = [.ref F, .d (ledD (ledP cs (names cs))), .d (.tuple (rd.map nmD))] ∧ σ[F]? = some c ∧ IsFeed c ∧ Wld zs cs ∧ Rdd cs rd ∧
  ∀ c', IsFeed c' → Q (.d (.list (stg cs rd (rd.length + 1)))) (σ.set F c')
instance : MoF fByr := ⟨fun k ⟨a, b, c, d, e, h, h1, h2, h3, h4, q⟩ => ⟨a, b, c, d, e, h, h1, h2, h3, h4, fun x y => k _ _ (q x y)⟩⟩
theorem byr_ok : ∀ ws σ Q X, fByr ws σ Q X → aFn 7 (p15Byr fSrt fDraw fJoi fLaid) ws σ (fun w σ' => Told σ.length σ σ' w Q) X := by
  rintro ws σ Q X ⟨F, cs, zs, rd, c, rfl, hc, hf, W, R, q⟩
  have hF : F < σ.length := (List.getElem?_eq_some_iff.mp hc).1
  generalize hQ : (fun w σ' => Told σ.length σ σ' w Q) = Q'
  have key : ∀ {c' : Cell} {j : Sto}, IsFeed c' → (Sx σ F c' j)[σ.length]? = some (.lst ((stg cs rd (rd.length + 1)).map .d)) → Q' (.ref σ.length) (Sx σ F c' j) := fun {c' j} h3 hcc => by
    rw [← hQ]
    refine ⟨.set (h3.clo _), .inl ⟨_, .lst (Nat.le_refl _) hcc (frzAll_pures (pures_map _)), ?_⟩⟩
    rw [List.take_append_of_le_length (by simp), List.take_of_length_le (by simp)]
    exact q c' h3
  clear hQ q
  have f16 := W.few
  have nd := W.nd
  have rl := R.len nd
  rw [show aFn 7 (p15Byr fSrt fDraw fJoi fLaid) [.ref F, .d (ledD (ledP cs (names cs))), .d (.tuple (rd.map nmD))] σ Q' X = aFn 7 (p15Byr fSrt fDraw fJoi fLaid) [.ref F, .d (ledD (ledP cs (names cs))), .d (.tuple (rd.map nmD))] (Sx σ F c []) Q' X by rw [← sx_start hc]]
  and_intros
  refine r_pures rfl (Nat.zero_le _) ?_
  and_intros
  refine ⟨by show 1 ≤ sizeLine; decide, ?_⟩
  rw [sx_app, sx_len]
  and_intros
  refine ⟨Nat.zero_le _, ?_⟩
  rw [sx_app, sx_len]
  and_intros
  rw [mapW]
  refine loop_run (fun i e s => ∃ c v5 v6, e = [some (.ref F), some (.d (ledD (ledP cs (names cs)))), some (.d (.tuple (rd.map nmD))), some (.ref σ.length), some (.ref (σ.length + 1)), v5, v6] ∧ s = Sx σ F c [.lst ((stg cs rd (i + 1)).map .d), .lst (nmW (rd.take i))] ∧ IsFeed c)
    ⟨c, none, none, rfl, (by simp [stg, nmW, ledP_nil]), hf⟩ (fun i w e s Rest hw h k => ?_) fun e s h => ?_
  · obtain ⟨c2, v5, v6, rfl, rfl, hf2⟩ := h
    rw [List.getElem?_map] at hw
    obtain ⟨m, hm, rfl⟩ := Option.map_eq_some_iff.mp hw
    have hi := (List.getElem?_eq_some_iff.mp hm).1
    have hmN := (R.all m).mp (List.mem_of_getElem? hm)
    obtain ⟨ch, hfc, hch, ex⟩ := findC_mem hmN
    subst ex
    have ek := knOf_own W.wr hch
    have eJ : ∀ A : List Nm, (∀ x, x ∈ A ↔ x ∈ ch.kn ++ [ch.nm] ∨ x ∈ rd.take i) → ledP cs A = ledP cs (rd.take (i + 1)) := fun A hA => ledP_congr fun x hx => by
      rw [hA, take_snoc hm, List.mem_append, List.mem_append]
      constructor
      · rintro ((h | h) | h)
        · exact .inl (R.ord i ch.nm hm x (by rw [ek]; exact h))
        · exact .inr h
        · exact .inl h
      · rintro (h | h)
        · exact .inr h
        · exact .inl (.inr h)
    have g0 : ∀ {c j}, (Sx σ F c (.lst ((stg cs rd (i + 1)).map .d) :: j))[σ.length]? = some (.lst ((stg cs rd (i + 1)).map .d)) := fun {c j} => by rw [sx_j0]; rfl
    have g1 : ∀ {c : Cell} {x : Cell}, (Sx σ F c [x, .lst (nmW (rd.take i))])[σ.length + 1]? = some (.lst (nmW (rd.take i))) := fun {c x} => by rw [sx_j]; rfl
    have sl : (stg cs rd (i + 1)).length ≤ 18 := by simp; omega
    refine ⟨True.intro, ?_⟩
    and_intros
    refine ⟨zs, cs, names cs, ch, rfl, W, clp_all W, hch, hmN, ?_⟩
    and_intros
    refine r_tyC g0 ?_
    refine r_cons ?_
    refine cutE (fun w s => w = .d (ledD (ledP cs (rd.take (i + 1)))) ∧ ∃ c', s = Sx σ F c' [.lst ((stg cs rd (i + 1)).map .d), .lst (nmW (rd.take i))] ∧ IsFeed c') ?_ fun w s h => ?_
    · and_intros
      refine r_draw hF hf2 (by decide) (by decide) fun r c3 r0 r2 hf3 => ?_
      and_intros
      refine r_ite (fun h => ?_) fun h => ?_
      · and_intros
        refine r_ixC g0 (by rw [stg_snoc, List.map_append]; exact atI_last _ _) ?_
        and_intros
        refine ⟨zs, cs, ch.kn ++ [ch.nm], rd.take i, rfl, W.wr, W.ww, f16, clp_laid W hch, R.clp i, ?_⟩
        exact ⟨by rw [eJ _ fun x => List.mem_append], c3, rfl, hf3⟩
      · and_intros
        refine r_ixC g0 (by rw [stg_snoc, List.map_append]; exact atI_last _ _) ?_
        and_intros
        refine ⟨zs, cs, rd.take i, ch.kn ++ [ch.nm], rfl, W.wr, W.ww, f16, R.clp i, clp_laid W hch, ?_⟩
        exact ⟨by rw [eJ _ fun x => by rw [List.mem_append]; exact Or.comm], c3, rfl, hf3⟩
    · obtain ⟨rfl, c4, rfl, hf4⟩ := h
      and_intros
      refine r_append g0 (small' (by rw [List.length_map]; omega)) ?_
      rw [sx_sj0]
      and_intros
      refine r_tyC (ws := nmW (rd.take i)) (by rw [sx_j]; rfl) ?_
      and_intros
      refine r_append (ws := nmW (rd.take i)) (by rw [sx_j]; rfl) (small' (by simp [nmW]; omega)) ?_
      rw [sx_sj]
      have es : (Sx σ F c4 (([Cell.lst ((stg cs rd (i + 1)).map .d), Cell.lst (nmW (rd.take i))].set 0 (.lst ((stg cs rd (i + 1)).map .d ++ [.d (ledD (ledP cs (rd.take (i + 1))))]))).set 1 (.lst (nmW (rd.take i) ++ [.d (nmD ch.nm)])))) = Sx σ F c4 [.lst ((stg cs rd (i + 1 + 1)).map .d), .lst (nmW (rd.take (i + 1)))] := by
        rw [stg_snoc cs rd (i + 1), take_snoc hm]
        simp [nmW]
      rw [es]
      and_intros
      refine r_ixC (ws := (stg cs rd (i + 1 + 1)).map .d) (by rw [sx_j0]; rfl) (by rw [stg_snoc, List.map_append]; exact atI_last _ _) ?_
      and_intros
      refine ⟨zs, cs, rd.take (i + 1), σ.length + 1, rfl, by rw [sx_j]; rfl, W, R.clp _, R.nd.sublist (List.take_sublist ..), by rw [List.length_take]; omega, ?_⟩
      and_intros
      refine r_nt ?_
      and_intros
      exact k _ _ ⟨c4, _, _, rfl, rfl, hf4⟩
  · obtain ⟨c2, v5, v6, rfl, rfl, hf2⟩ := h
    refine ⟨True.intro, ?_⟩
    and_intros
    refine key hf2 ?_
    rw [sx_j0, List.length_map]
    rfl
end Lw

set_option maxHeartbeats 4000000
/-! L15F: k15: lumps. -/
namespace Lw
open PySem PySem.Spec PyProof.Rows L2 Mw Aw
theorem mem_whole {cs : List Ch} (nd : (names cs).Nodup) {c : Ch} : c ∈ ledP cs (names cs) ↔ c ∈ cs := by
  rw [mem_ledP nd]
  exact ⟨fun h => h.1, fun h => ⟨h, List.mem_map.mpr ⟨c, h, rfl⟩⟩⟩
theorem names_whole {cs : List Ch} (nd : (names cs).Nodup) {m : Nm} : m ∈ names (ledP cs (names cs)) ↔ m ∈ names cs := by
  constructor
  · intro h
    obtain ⟨c, hc, rfl⟩ := List.mem_map.mp h
    exact List.mem_map.mpr ⟨c, (mem_whole nd).mp hc, rfl⟩
  · intro h
    obtain ⟨c, hc, rfl⟩ := List.mem_map.mp h
    exact List.mem_map.mpr ⟨c, (mem_whole nd).mpr hc, rfl⟩
/-- each name is a top or known to one -/
theorem top_cover {zs : List Str} {cs : List Ch} (W : Wld zs cs) : ∀ m ∈ names cs, ∃ t ∈ topsP (ledP cs (names cs)), m = t ∨ m ∈ knOf cs t := by
  have nd := W.nd
  have all : ∀ (n : Nat) (m : Nm), m ∈ names cs → ((cs.length : Int) - m.1).toNat ≤ n → ∃ t ∈ topsP (ledP cs (names cs)), m = t ∨ m ∈ knOf cs t := by
    intro n
    induction n with
    | zero =>
      intro m hm h0
      refine ⟨m, List.mem_filter.mpr ⟨(names_whole nd).mpr hm, ?_⟩, .inl rfl⟩
      rw [decide_eq_false]
      · rfl
      · intro z
        obtain ⟨c, hc, hb⟩ := List.mem_flatMap.mp z
        have hcc := (mem_whole nd).mp hc
        have h1 := cnt_lt W.wr c hcc m (base_sub W.wr c hcc m hb)
        have h2 := cnt_le W.wr c.nm (List.mem_map.mpr ⟨c, hcc, rfl⟩)
        omega
    | succ n ih =>
      intro m hm h0
      by_cases z : m ∈ (ledP cs (names cs)).flatMap (·.base)
      · obtain ⟨c, hc, hb⟩ := List.mem_flatMap.mp z
        have hcc := (mem_whole nd).mp hc
        have hcn : c.nm ∈ names cs := List.mem_map.mpr ⟨c, hcc, rfl⟩
        have hk := base_sub W.wr c hcc m hb
        have h1 := cnt_lt W.wr c hcc m hk
        have h2 := cnt_le W.wr c.nm hcn
        obtain ⟨t, ht, h⟩ := ih c.nm hcn (by omega)
        refine ⟨t, ht, .inr ?_⟩
        rcases h with rfl | h
        · rw [knOf_own W.wr hcc]; exact hk
        · have htn : t ∈ names cs := (names_whole nd).mp (List.mem_filter.mp ht).1
          obtain ⟨d, hf, hd, e⟩ := findC_mem htn
          rw [knOf_eq hf] at h ⊢
          exact kn_trans W.wr d hd c.nm h m (by rw [knOf_own W.wr hcc]; exact hk)
      · exact ⟨m, List.mem_filter.mpr ⟨(names_whole nd).mpr hm, by rw [decide_eq_false z]; rfl⟩, .inl rfl⟩
  exact fun m hm => all _ m hm (Nat.le_refl _)
def fLum : AF := fun ws σ Q _ => ∃ F cs zs c, ws = [.ref F, .d (ledD (ledP cs (names cs))), .d (.list ((srt (names cs)).map nmD))] ∧ σ[F]? = some c ∧ IsFeed c ∧ Wld zs cs ∧
  ∀ c', IsFeed c' → Q (.d (ledD (ledP cs (names cs)))) (σ.set F c')
instance : MoF fLum := ⟨fun k ⟨a, b, c, d, h, h1, h2, h3, q⟩ => ⟨a, b, c, d, h, h1, h2, h3, fun x y => k _ _ (q x y)⟩⟩
theorem lum_ok : ∀ ws σ Q X, fLum ws σ Q X → aFn 6 (p15Lum fTops fJoi fLaid fDraw) ws σ Q X := by
  rintro ws σ Q X ⟨F, cs, zs, c, rfl, hc, hf, W, q⟩
  have hF : F < σ.length := (List.getElem?_eq_some_iff.mp hc).1
  have key : ∀ {c' : Cell}, IsFeed c' → Q (.d (ledD (ledP cs (names cs)))) (Sx σ F c' []) := fun {c'} h3 => by rw [show Sx σ F c' [] = σ.set F c' from List.append_nil _]; exact q c' h3
  clear q
  have f16 := W.few
  have nd := W.nd
  rw [show aFn 6 (p15Lum fTops fJoi fLaid fDraw) [.ref F, .d (ledD (ledP cs (names cs))), .d (.list ((srt (names cs)).map nmD))] σ Q X = aFn 6 (p15Lum fTops fJoi fLaid fDraw) [.ref F, .d (ledD (ledP cs (names cs))), .d (.list ((srt (names cs)).map nmD))] (Sx σ F c []) Q X by rw [← sx_start hc]]
  have n16 : (srt (names cs)).length ≤ 16 := by rw [srt_len, List.length_map]; exact f16
  have Lin : ∀ m ∈ srt (names cs), m ∈ names cs := fun m hm => mem_srt.mp hm
  generalize srt (names cs) = L at n16 Lin ⊢
  and_intros
  refine r_pures rfl (Nat.zero_le _) ?_
  and_intros
  refine r_draw hF hf (by decide) (by decide) fun r c1 r0 r7 hf1 => ?_
  and_intros
  refine r_pures rfl (Nat.zero_le _) ?_
  and_intros
  refine ⟨⟨shNms (fun x hx => W.wrd (Lin x hx)), by decide +kernel⟩, ?_⟩
  refine r_nil ?_
  show intW [.d (.bool (!PyData.eqv (.list (L.map nmD)) (.list [])))] _ _
  rw [eqvNilN]
  refine .inr ⟨_, rfl, ?_⟩
  and_intros
  refine r_mulI (CMulU.l (by omega) (by omega)) ?_
  and_intros
  have hb : ∃ k : Int, r * (if (!decide (L = [])) = true then (1 : Int) else 0) = k ∧ 0 ≤ k ∧ k ≤ 16 ∧ (0 < k → L ≠ []) := by
    by_cases h : L = []
    · exact ⟨0, by simp [h], by decide, by decide, fun z => by omega⟩
    · exact ⟨r, by simp [h], by omega, by omega, fun _ => h⟩
  obtain ⟨m3, e3, m30, m33, mne⟩ := hb
  rw [e3]
  refine r_rng (by omega) (by omega) ?_
  refine loop_run (fun i e s => ∃ c v4 v5 A, e = [some (.ref F), some (.d (ledD (ledP cs (names cs)))), some (.d (.list (L.map nmD))), some (.d (ledD (ledP cs A))), v4, v5] ∧ s = Sx σ F c [] ∧ IsFeed c ∧ ClP cs A)
    ⟨c1, none, none, [], (by rw [ledP_nil]; rfl), rfl, hf1, ClP.nil cs⟩ (fun i w e s Rest hw h k => ?_) fun e s h => ?_
  · obtain ⟨c2, v4, v5, A, rfl, rfl, hf2, ac⟩ := h
    obtain ⟨rfl, hi⟩ := rng_at hw
    have hne := mne (by omega)
    have npos : 0 < L.length := List.length_pos_iff.mpr hne
    refine ⟨True.intro, ?_⟩
    and_intros
    refine r_draw hF hf2 (by rw [List.length_map]; omega) (by rw [List.length_map]; omega) fun r' c6 r0' r1' hf6 => ?_
    rw [List.length_map] at r1'
    obtain ⟨l, rfl⟩ : ∃ l : Nat, r' = (l : Int) := ⟨r'.toNat, (Int.toNat_of_nonneg r0').symm⟩
    have hlL : l < L.length := by omega
    refine r_ixL (x := nmD L[l]) (atI_nat (by rw [List.getElem?_map, List.getElem?_eq_getElem hlL]; rfl)) ?_
    have hin := Lin L[l] (List.getElem_mem _)
    generalize L[l] = x at hin ⊢
    obtain ⟨ch, hfc, hch, ex⟩ := findC_mem hin
    subst ex
    and_intros
    refine ⟨zs, cs, names cs, ch, rfl, W, clp_all W, hch, hin, ?_⟩
    and_intros
    refine ⟨zs, cs, A, ch.kn ++ [ch.nm], rfl, W.wr, W.ww, f16, ac, clp_laid W hch, ?_⟩
    and_intros
    exact k _ _ ⟨c6, _, _, _, rfl, rfl, hf6, ac.app (clp_laid W hch)⟩
  · obtain ⟨c2, v4, v5, A0, rfl, rfl, hf2, ac0⟩ := h
    refine ⟨True.intro, ?_⟩
    and_intros
    have lW := ledP_len cs (names cs)
    refine ⟨ledP cs (names cs), rfl, by omega, fun c hc => Nat.le_trans (W.ok c (ledP_mem hc)).bl (by decide), ?_⟩
    and_intros
    rw [mapW]
    refine loop_run (fun i e s => ∃ v4 v5 A, e = [some (.ref F), some (.d (ledD (ledP cs (names cs)))), some (.d (.list (L.map nmD))), some (.d (ledD (ledP cs A))), v4, v5] ∧ s = Sx σ F c2 [] ∧ ClP cs A ∧ ∀ t ∈ (topsP (ledP cs (names cs))).take i, t ∈ A)
      ⟨_, _, A0, rfl, rfl, ac0, fun t ht => by simp at ht⟩ (fun i w e s Rest hw h k => ?_) fun e s h => ?_
    · obtain ⟨v4, v5, A, rfl, rfl, ac, at_⟩ := h
      rw [List.getElem?_map] at hw
      obtain ⟨m, hm, rfl⟩ := Option.map_eq_some_iff.mp hw
      have hmN := (names_whole nd).mp (List.mem_filter.mp (List.mem_of_getElem? hm)).1
      obtain ⟨ch, hfc, hch, ex⟩ := findC_mem hmN
      subst ex
      refine ⟨True.intro, ?_⟩
      and_intros
      refine ⟨zs, cs, names cs, ch, rfl, W, clp_all W, hch, hmN, ?_⟩
      and_intros
      refine ⟨zs, cs, ch.kn ++ [ch.nm], A, rfl, W.wr, W.ww, f16, clp_laid W hch, ac, ?_⟩
      and_intros
      refine k _ _ ⟨_, _, _, rfl, rfl, (clp_laid W hch).app ac, fun t ht => ?_⟩
      rw [take_snoc hm] at ht
      rcases List.mem_append.mp ht with h | h
      · exact List.mem_append_right _ (at_ t h)
      · rw [List.mem_singleton.mp h]; simp
    · obtain ⟨v4, v5, A, rfl, rfl, ac, at_⟩ := h
      rw [List.length_map, List.take_length] at at_
      refine ⟨True.intro, ?_⟩
      and_intros
      rw [led_whole A fun n hn => by
        obtain ⟨t, ht, h⟩ := top_cover W n hn
        rcases h with rfl | h
        · exact at_ _ ht
        · exact ac.clo t (at_ t ht) n h]
      exact key hf2
end Lw

set_option maxHeartbeats 4000000
/-! L15G: k15: the law. -/
namespace Lw
open PySem PySem.Spec PyProof.Rows L2 Mw Aw
theorem r_isN {fa : AE} {e : Ev} {σ : Sto} {Q : QK} {X : XQ} (h : fa e σ (fun x σ1 => Q (.d (.bool (isNo x))) σ1) X) : aIsN fa e σ Q X := h
theorem r_par {i j : Nat} {fr : AA} {k : AK} {e : Ev} {σ : Sto} (h : fr e σ (fun ws σ1 => ∃ v w, ws = [v, w] ∧ k.nx ((e.set i (some v)).set j (some w)) σ1) (k.ex e)) : aPar i j fr k e σ := h
theorem cut_dropL {α : Type} (l : List α) (k : Nat) (hk : k ≤ l.length) : cutL l (some (k : Int)) none = l.drop k := by
  unfold cutL
  rw [HT.sIx_none, HT.sIx_nat, Nat.min_eq_left hk]
  exact List.take_of_length_le (by rw [List.length_drop]; exact Nat.le_refl _)
theorem take_and {cs : List Ch} {rd : List Nm} (a b : Nat) : ledP cs ((rd.take a).filter fun n => decide (n ∈ rd.take b)) = ledP cs (rd.take (min a b)) := by
  refine ledP_congr fun n hn => ?_
  rw [List.mem_filter, decide_eq_true_iff]
  by_cases h : a ≤ b
  · rw [Nat.min_eq_left h]
    refine ⟨fun z => z.1, fun z => ⟨z, ?_⟩⟩
    rw [show rd.take a = (rd.take b).take a by rw [List.take_take, Nat.min_eq_left h]] at z
    exact List.mem_of_mem_take z
  · rw [Nat.min_eq_right (by omega)]
    refine ⟨fun z => z.2, fun z => ⟨?_, z⟩⟩
    rw [show rd.take b = (rd.take a).take b by rw [List.take_take, Nat.min_eq_left (by omega)]] at z
    exact List.mem_of_mem_take z
theorem wout_road {zs : List Str} {cs : List Ch} (W : Wld zs cs) {rd : List Nm} (R : Rdd cs rd) (a : Nat) : wout (gather (rd.drop a)) (ledP cs (names cs)) = ledP cs (rd.take a) := by
  have nd := W.nd
  rw [wout_eq W.wr (ledP_led W.wr (clp_all W))]
  have e : (ledP cs (names cs)).filter (fun c => !bad (rd.drop a) c) = (ledP cs (names cs)).filter (fun c => decide (c.nm ∈ rd.take a)) := by
    refine List.filter_congr fun c hc => ?_
    have hcc := (mem_whole nd).mp hc
    have hcr : c.nm ∈ rd := (R.all _).mpr (List.mem_map.mpr ⟨c, hcc, rfl⟩)
    have dis : ∀ x, x ∈ rd.take a → x ∉ rd.drop a := fun x h1 h2 => by
      have ndR := R.nd
      rw [← List.take_append_drop a rd] at ndR
      exact (List.nodup_append.mp ndR).2.2 x h1 x h2 rfl
    by_cases h : c.nm ∈ rd.take a
    · rw [decide_eq_true h]
      have nb : ¬ bad (rd.drop a) c = true := fun z => by
        rcases bad_iff.mp z with z | ⟨k, h1, h2⟩
        · exact dis _ h z
        · exact dis k ((R.clp a).clo c.nm h k (by rw [knOf_own W.wr hcc]; exact h1)) h2
      cases hb : bad (rd.drop a) c with
      | true => exact absurd hb nb
      | false => rfl
    · rw [decide_eq_false h]
      have hd : c.nm ∈ rd.drop a := by
        rw [← List.take_append_drop a rd] at hcr
        exact (List.mem_append.mp hcr).resolve_left h
      rw [bad_iff.mpr (.inl hd)]
      rfl
  rw [e, led_sub]
  refine ledP_congr fun n hn => ?_
  rw [List.mem_filter, decide_eq_true_iff]
  exact ⟨fun z => z.2, fun z => ⟨hn, z⟩⟩
theorem law15_ok (ns : List Int) (hl : ns.length ≤ 63) : aFn 11 (p15Law fLum fWo fCom fDraw fByr fIsr fRoad fLedger fWorld fWords fFeed) [.scr ns] [] (fun w _ => w = .d (.bool true)) (fun _ _ => False) := by
  and_intros
  refine ⟨ns, rfl, hl, fun c0 hf0 => ?_⟩
  show agN _ _ _ (Sx [c0] 0 c0 []) _
  and_intros
  refine r_draw Nat.one_pos hf0 (by decide) (by decide) fun r c1 r0 r6 hf1 => ?_
  and_intros
  refine ⟨0, 1 + r, c1, rfl, by omega, by omega, rfl, hf1, fun zs c2 zl wrd hf2 => ?_⟩
  show agN _ _ _ (Sx [c0] 0 c2 []) _
  and_intros
  refine r_draw Nat.one_pos hf2 (by decide) (by decide) fun m c3 m0 m17 hf3 => ?_
  and_intros
  refine ⟨0, zs, m, c3, rfl, rfl, hf3, by omega, by omega, wrd, m0, by omega, fun cs c4 σ wr csl hf4 hc4 wd sl _ => ?_⟩
  have wd : WdA σ 1 cs := wd
  have csl : cs.length ≤ 16 := by omega
  have W : Wld zs cs := ⟨wr, wrd, csl⟩
  have nd := W.nd
  have of : Off 0 1 := .inl (by decide)
  have hF : 0 < σ.length := by rw [sl]; exact Nat.succ_pos _
  show agN _ (.ref 1) _ σ _
  rw [show σ = Sx σ 0 c4 [] from sx_start hc4]
  have W1 : ∀ {c j}, WdA (Sx σ 0 c j) 1 cs := fun {c j} => wd.sx of
  and_intros
  refine ix_ch W1 ?_
  and_intros
  refine r_srt W1.a1 (keys_1 cs) ?_
  and_intros
  refine ⟨1, cs, srt (names cs), _, rfl, .inl rfl, W1, by omega, fun m hm => W.wrd hm, fun m hm => W.wrd (mem_srt.mp hm), ?_⟩
  rw [led_whole (srt (names cs)) fun n hn => mem_srt.mpr hn]
  and_intros
  refine r_rng (by decide) (by decide) ?_
  refine loop_run (fun i e s => ∃ c v6 v7 v8 v9 v10, e = [some (.scr ns), some (.ref 0), some (.d (ssD zs)), some (.ref 1), some (.d (.list ((srt (names cs)).map nmD))), some (.d (ledD (ledP cs (names cs)))), v6, v7, v8, v9, v10] ∧ s = Sx σ 0 c [] ∧ IsFeed c)
    ⟨c4, none, none, none, none, none, rfl, rfl, hf4⟩ (fun i w e s Rest hw h k => ?_) fun e s h => ?_
  · obtain ⟨c5, v6, v7, v8, v9, v10, rfl, rfl, hf5⟩ := h
    obtain ⟨rfl, hi⟩ := rng_at hw
    refine ⟨True.intro, ?_⟩
    and_intros
    refine ⟨0, 1, cs, zs, c5, rfl, sx_at hF, hf5, of, W1, W, fun rd c6 R hf6 => ?_⟩
    rw [sx_set hF]
    have rl := R.len nd
    and_intros
    refine r_noB ?_
    and_intros
    refine ⟨zs, cs, rd, rfl, W, R, ?_⟩
    refine ⟨true, rfl, ?_⟩
    and_intros
    refine r_ff ?_
    and_intros
    refine ⟨0, cs, zs, rd, c6, rfl, sx_at hF, hf6, W, R, fun c7 hf7 => ?_⟩
    rw [sx_set hF]
    have ixS : ∀ {a : Nat}, a ≤ rd.length → atI (stg cs rd (rd.length + 1)) (a : Int) = some (ledD (ledP cs (rd.take a))) := fun {a} ha => atI_nat (by
      show ((List.range _).map _)[a]? = _
      rw [List.getElem?_map, List.getElem?_range (by omega)]
      rfl)
    have ell : (stg cs rd (rd.length + 1)).length = rd.length + 1 := by simp [stg]
    and_intros
    refine r_isN ?_
    and_intros
    show if isNo (.d (.list _)) = true then _ else _
    refine r_iteF ?_
    and_intros
    refine r_ixL (x := ledD (ledP cs (rd.take rd.length))) (by rw [stg_snoc]; exact atI_last _ _) ?_
    rw [List.take_length, led_whole rd fun n hn => (R.all n).mpr hn]
    and_intros
    refine r_repr (W.shw _) ?_
    and_intros
    refine r_repr (W.shw _) ?_
    and_intros
    rw [decide_eq_true rfl]
    refine r_iteF ?_
    and_intros
    refine r_par ?_
    and_intros
    refine r_draw hF hf7 (by rw [ell]; omega) (by rw [ell]; omega) fun ra c8 a0 a1 hf8 => ?_
    and_intros
    refine r_draw hF hf8 (by rw [ell]; omega) (by rw [ell]; omega) fun rb c9 b0 b1 hf9 => ?_
    rw [ell] at a1 b1
    obtain ⟨a, rfl⟩ : ∃ j : Nat, ra = (j : Int) := ⟨ra.toNat, (Int.toNat_of_nonneg a0).symm⟩
    obtain ⟨b, rfl⟩ : ∃ j : Nat, rb = (j : Int) := ⟨rb.toNat, (Int.toNat_of_nonneg b0).symm⟩
    and_intros
    refine ⟨_, _, rfl, ?_⟩
    and_intros
    refine r_ixL (ixS (by omega)) ?_
    and_intros
    refine r_ixL (ixS (by omega)) ?_
    and_intros
    refine ⟨zs, cs, rd.take a, rd.take b, rfl, W, R.clp a, R.clp b, ?_⟩
    rw [take_and]
    and_intros
    refine r_repr (W.shw _) ?_
    and_intros
    refine ⟨(a : Int), (b : Int), rfl, ?_⟩
    rw [show (if (b : Int) < (a : Int) then (b : Int) else (a : Int)) = ((min a b : Nat) : Int) by
      by_cases h : (b : Int) < (a : Int)
      · rw [if_pos h, Nat.min_eq_right (by omega)]
      · rw [if_neg h, Nat.min_eq_left (by omega)]]
    refine r_ixL (ixS (by omega)) ?_
    and_intros
    refine r_repr (W.shw _) ?_
    and_intros
    rw [decide_eq_true rfl]
    refine r_iteF ?_
    and_intros
    rw [cutL_map, cut_dropL rd a (by omega)]
    have lW := ledP_len cs (names cs)
    refine ⟨ledP cs (names cs), rd.drop a, rfl, by omega, by rw [List.length_drop]; omega, ?_⟩
    rw [wout_road W R]
    and_intros
    refine r_repr (W.shw _) ?_
    and_intros
    refine r_ixL (ixS (by omega)) ?_
    and_intros
    refine r_repr (W.shw _) ?_
    and_intros
    rw [decide_eq_true rfl]
    refine r_iteF ?_
    and_intros
    refine ⟨0, cs, zs, c9, rfl, sx_at hF, hf9, W, fun c10 hf10 => ?_⟩
    rw [sx_set hF]
    and_intros
    refine r_repr (W.shw _) ?_
    and_intros
    refine r_repr (W.shw _) ?_
    and_intros
    rw [decide_eq_true rfl]
    refine r_iteF ?_
    and_intros
    exact k _ _ ⟨c10, _, _, _, _, _, rfl, rfl, hf10⟩
  · obtain ⟨c5, v6, v7, v8, v9, v10, rfl, rfl, hf5⟩ := h
    refine ⟨True.intro, ?_⟩
    and_intros
    rfl
end Lw

set_option maxHeartbeats 8000000
set_option synthInstance.maxHeartbeats 2000000
set_option synthInstance.maxSize 100000
namespace K15
open PySem PySem.Spec PyProof.Rows L2 Mw Aw Lw
def topS (i : Nat) : Stmt := PySem.Challenge.pw_marginwords_k15_whole_joined_by_any_road.main.body.getD i (.Pass ⟨0, 0, 0, 0⟩)
abbrev sIto : Stmt := topS 6
theorem scIto : FnScope ["many", "thing"] ["many", "thing"] (defScope sIto) := ⟨rfl, rfl, rfl, by decide +kernel, rfl, by decide +kernel, by decide +kernel⟩
abbrev sNum : Stmt := topS 7
theorem scNum : FnScope ["thing"] ["thing"] (defScope sNum) := ⟨rfl, rfl, rfl, by decide +kernel, rfl, by decide +kernel, by decide +kernel⟩
abbrev sSml : Stmt := topS 8
theorem scSml : FnScope ["sign"] ["sign"] (defScope sSml) := ⟨rfl, rfl, rfl, by decide +kernel, rfl, by decide +kernel, by decide +kernel⟩
abbrev sWrd : Stmt := topS 9
theorem scWrd : FnScope ["thing", "sign"] ["thing"] (defScope sWrd) := ⟨rfl, rfl, rfl, by decide +kernel, rfl, by decide +kernel, by decide +kernel⟩
abbrev sIsn : Stmt := topS 10
theorem scIsn : FnScope ["thing"] ["thing"] (defScope sIsn) := ⟨rfl, rfl, rfl, by decide +kernel, rfl, by decide +kernel, by decide +kernel⟩
abbrev sNof : Stmt := topS 12
theorem scNof : FnScope ["ledger", "change"] ["ledger"] (defScope sNof) := ⟨rfl, rfl, rfl, by decide +kernel, rfl, by decide +kernel, by decide +kernel⟩
abbrev sBy : Stmt := topS 13
theorem scBy : FnScope ["ledger", "change"] ["ledger"] (defScope sBy) := ⟨rfl, rfl, rfl, by decide +kernel, rfl, by decide +kernel, by decide +kernel⟩
abbrev sEby : Stmt := topS 14
theorem scEby : FnScope ["base", "found", "elders", "name", "elder"] ["base", "found"] (defScope sEby) := ⟨rfl, rfl, rfl, by decide +kernel, rfl, by decide +kernel, by decide +kernel⟩
abbrev sKno : Stmt := topS 15
theorem scKno : FnScope ["ledger", "found", "change"] ["ledger"] (defScope sKno) := ⟨rfl, rfl, rfl, by decide +kernel, rfl, by decide +kernel, by decide +kernel⟩
abbrev sCho : Stmt := topS 16
theorem scCho : FnScope ["ledger", "name", "change"] ["ledger", "name"] (defScope sCho) := ⟨rfl, rfl, rfl, by decide +kernel, rfl, by decide +kernel, by decide +kernel⟩
abbrev sKnw : Stmt := topS 17
theorem scKnw : FnScope ["ledger", "name", "change", "elders", "each"] ["ledger", "name"] (defScope sKnw) := ⟨rfl, rfl, rfl, by decide +kernel, rfl, by decide +kernel, by decide +kernel⟩
abbrev sTop : Stmt := topS 18
theorem scTop : FnScope ["ledger", "elders", "change", "name"] ["ledger"] (defScope sTop) := ⟨rfl, rfl, rfl, by decide +kernel, rfl, by decide +kernel, by decide +kernel⟩
abbrev sBrn : Stmt := topS 19
theorem scBrn : FnScope ["ledger", "branch", "name"] ["ledger", "branch"] (defScope sBrn) := ⟨rfl, rfl, rfl, by decide +kernel, rfl, by decide +kernel, by decide +kernel⟩
abbrev sWo : Stmt := topS 20
theorem scWo : FnScope ["ledger", "names", "gone", "name", "left", "change", "elder"] ["ledger", "names"] (defScope sWo) := ⟨rfl, rfl, rfl, by decide +kernel, rfl, by decide +kernel, by decide +kernel⟩
abbrev sEin : Stmt := topS 22
theorem scEin : FnScope ["one", "other", "whole", "change", "name"] ["one", "other"] (defScope sEin) := ⟨rfl, rfl, rfl, by decide +kernel, rfl, by decide +kernel, by decide +kernel⟩
abbrev sJoi : Stmt := topS 23
theorem scJoi : FnScope ["one", "other", "whole", "theirs", "elders", "k", "change", "name", "ahead", "elder"] ["one", "other"] (defScope sJoi) := ⟨rfl, rfl, rfl, by decide +kernel, rfl, by decide +kernel, by decide +kernel⟩
abbrev sCom : Stmt := topS 24
theorem scCom : FnScope ["one", "other", "theirs", "shared", "change", "alike", "elder"] ["one", "other"] (defScope sCom) := ⟨rfl, rfl, rfl, by decide +kernel, rfl, by decide +kernel, by decide +kernel⟩
abbrev sPrt : Stmt := topS 25
theorem scPrt : FnScope ["one", "other", "theirs", "change"] ["one", "other"] (defScope sPrt) := ⟨rfl, rfl, rfl, by decide +kernel, rfl, by decide +kernel, by decide +kernel⟩
abbrev sIsr : Stmt := topS 27
theorem scIsr : FnScope ["ledger", "thing", "changes", "passed", "name", "elder"] ["ledger", "thing"] (defScope sIsr) := ⟨rfl, rfl, rfl, by decide +kernel, rfl, by decide +kernel, by decide +kernel⟩
abbrev sRbn : Stmt := topS 28
theorem scRbn : FnScope ["ledger"] ["ledger"] (defScope sRbn) := ⟨rfl, rfl, rfl, by decide +kernel, rfl, by decide +kernel, by decide +kernel⟩
abbrev sFeed : Stmt := topS 30
theorem scFeed : FnScope ["_law_script"] ["_law_script"] (defScope sFeed) := ⟨rfl, rfl, rfl, by decide +kernel, rfl, by decide +kernel, by decide +kernel⟩
abbrev sDraw : Stmt := topS 31
theorem scDraw : FnScope ["_law_feed_here", "_law_many", "_law_figure", "_law_at", "_law_cell", "_law_mixed"] ["_law_feed_here", "_law_many"] (defScope sDraw) := ⟨rfl, rfl, rfl, by decide +kernel, rfl, by decide +kernel, by decide +kernel⟩
abbrev sWords : Stmt := topS 32
theorem scWords : FnScope ["_law_feed_here", "_law_many", "_law_abc", "_law_way", "_law_first", "_law_k", "_law_stem", "_law_at", "_law_start", "_law_step_here", "_law_words_here", "_law_tail", "_law_own"] ["_law_feed_here", "_law_many"] (defScope sWords) := ⟨rfl, rfl, rfl, by decide +kernel, rfl, by decide +kernel, by decide +kernel⟩
abbrev sDeed : Stmt := topS 33
theorem scDeed : FnScope ["_law_feed_here", "_law_world_here", "_law_base", "_law_floor", "_law_abc", "_law_letters", "_law_k", "_law_way", "_law_sorts", "_law_name", "_law_hangs"] ["_law_feed_here", "_law_world_here", "_law_base", "_law_floor"] (defScope sDeed) := ⟨rfl, rfl, rfl, by decide +kernel, rfl, by decide +kernel, by decide +kernel⟩
abbrev sStep : Stmt := topS 34
theorem scStep : FnScope ["_law_feed_here", "_law_world_here", "_law_words_here", "_law_branch", "_law_names", "_law_grounds", "_law_wanted", "_law_one", "_law_name", "_law_floor", "_law_below", "_law_base", "_law_own", "_law_deed_here"] ["_law_feed_here", "_law_world_here", "_law_words_here"] (defScope sStep) := ⟨rfl, rfl, rfl, by decide +kernel, rfl, by decide +kernel, by decide +kernel⟩
abbrev sWorld : Stmt := topS 35
theorem scWorld : FnScope ["_law_feed_here", "_law_words_here", "_law_many", "_law_world_here", "_law_k"] ["_law_feed_here", "_law_words_here", "_law_many"] (defScope sWorld) := ⟨rfl, rfl, rfl, by decide +kernel, rfl, by decide +kernel, by decide +kernel⟩
abbrev sLedger : Stmt := topS 36
theorem scLedger : FnScope ["_law_world_here", "_law_names", "_law_name"] ["_law_world_here", "_law_names"] (defScope sLedger) := ⟨rfl, rfl, rfl, by decide +kernel, rfl, by decide +kernel, by decide +kernel⟩
abbrev sRoad : Stmt := topS 37
theorem scRoad : FnScope ["_law_feed_here", "_law_world_here", "_law_names", "_law_left", "_law_road_here", "_law_way", "_law_ready", "_law_name", "_law_one"] ["_law_feed_here", "_law_world_here", "_law_names"] (defScope sRoad) := ⟨rfl, rfl, rfl, by decide +kernel, rfl, by decide +kernel, by decide +kernel⟩
abbrev sLaid : Stmt := topS 38
theorem scLaid : FnScope ["_law_ledger_here", "_law_name"] ["_law_ledger_here", "_law_name"] (defScope sLaid) := ⟨rfl, rfl, rfl, by decide +kernel, rfl, by decide +kernel, by decide +kernel⟩
abbrev sSrt : Stmt := topS 39
theorem scSrt : FnScope ["_law_ledger_here", "_law_stage", "_law_names", "_law_name"] ["_law_ledger_here", "_law_stage", "_law_names"] (defScope sSrt) := ⟨rfl, rfl, rfl, by decide +kernel, rfl, by decide +kernel, by decide +kernel⟩
abbrev sByr : Stmt := topS 40
theorem scByr : FnScope ["_law_feed_here", "_law_ledger_here", "_law_road_here", "_law_stages", "_law_names", "_law_name", "_law_more"] ["_law_feed_here", "_law_ledger_here", "_law_road_here"] (defScope sByr) := ⟨rfl, rfl, rfl, by decide +kernel, rfl, by decide +kernel, by decide +kernel⟩
abbrev sLum : Stmt := topS 41
theorem scLum : FnScope ["_law_feed_here", "_law_ledger_here", "_law_names", "_law_found", "_law_k", "_law_name"] ["_law_feed_here", "_law_ledger_here", "_law_names"] (defScope sLum) := ⟨rfl, rfl, rfl, by decide +kernel, rfl, by decide +kernel, by decide +kernel⟩
abbrev sLaw : Stmt := topS 42
theorem scLaw : FnScope ["_law_script", "_law_feed_here", "_law_words_here", "_law_world_here", "_law_names", "_law_ledger_here", "_law_turn", "_law_road_here", "_law_stages", "_law_at", "_law_to"] ["_law_script"] (defScope sLaw) := ⟨rfl, rfl, rfl, by decide +kernel, rfl, by decide +kernel, by decide +kernel⟩
section
variable {P : Program} {w : World} {Z : Zx} {mg : Str → Option Value} {base : Heap}
theorem ok_Ito {f c : Addr} {fd : FuncData} (D : Def Z.K "is_tuple_of" sIto f c fd) (bd : Binds Z.K fd ["many", "thing"] []) (gl : mg "is_tuple_of" = some (.ref f)) (m_isinstance : mg "isinstance" = none) (m_len : mg "len" = none) (m_tuple : mg "tuple" = none) :
    CalF P w Z mg base "is_tuple_of" 2 ["many", "thing"] (aFn 2 p15Ito) := by
  refine ⟨f, fd, D.kp, bd, gl, fnA (k := 1) D scIto fun A outer s H F hr => ?_⟩
  refine ⟨_, (pss_one (ps_ret (pe_and (pe_isiA (n := "tuple") (p1 := ⟨0, 0, 0, 0⟩) (K := Z.K) rfl (by rfl) m_isinstance (pv 1) (by rfl) m_tuple (by decide +kernel) (by decide) (by decide) rfl rfl rfl) (pe_one (pe_cmpR (op_eqU (K := Z.K) rfl hr) (pe_callB (call_lenU (K := Z.K) rfl) (by rfl) m_len PySem.boot_len (pa_cons (pv 1) pa_nil)) (pv 0) (nomark _)))))), ?_⟩
  exact inferInstance
theorem ok_Num {f c : Addr} {fd : FuncData} (D : Def Z.K "is_number" sNum f c fd) (bd : Binds Z.K fd ["thing"] []) (gl : mg "is_number" = some (.ref f)) (m_bool : mg "bool" = none) (m_int : mg "int" = none) (m_isinstance : mg "isinstance" = none) :
    CalF P w Z mg base "is_number" 2 ["thing"] (aFn 1 p15Num) := by
  refine ⟨f, fd, D.kp, bd, gl, fnA (k := 1) D scNum fun A outer s H F hr => ?_⟩
  refine ⟨_, (pss_one (ps_ret (pe_and (pe_isiA (n := "int") (p1 := ⟨0, 0, 0, 0⟩) (K := Z.K) rfl (by rfl) m_isinstance (pv 0) (by rfl) m_int PyProof.Rows.boot_int (by decide) (by decide) rfl rfl rfl) (pe_one (pe_not (pe_isiA (n := "bool") (p1 := ⟨0, 0, 0, 0⟩) (K := Z.K) rfl (by rfl) m_isinstance (pv 0) (by rfl) m_bool (by decide +kernel) (by decide) (by decide) rfl rfl rfl)))))), ?_⟩
  exact inferInstance
theorem ok_Sml {f c : Addr} {fd : FuncData} (D : Def Z.K "is_small" sSml f c fd) (bd : Binds Z.K fd ["sign"] []) (gl : mg "is_small" = some (.ref f)) :
    CalF P w Z mg base "is_small" 2 ["sign"] (aFn 1 p15Sml) := by
  refine ⟨f, fd, D.kp, bd, gl, fnA (k := 1) D scSml fun A outer s H F hr => ?_⟩
  refine ⟨_, (pss_one (ps_ret (pe_chain (op_leU (K := Z.K) rfl hr) (op_leU (K := Z.K) rfl hr) pe_str (pv 0) pe_str))), ?_⟩
  exact inferInstance
theorem ok_Wrd {f c Pt : Addr} {fd : FuncData} {fSml : AF} (D : Def Z.K "is_word" sWrd f c fd) (bd : Binds Z.K fd ["thing"] []) (gl : mg "is_word" = some (.ref f)) (m_all : mg "all" = none) (m_isinstance : mg "isinstance" = none) (m_len : mg "len" = none) (m_str : mg "str" = none) {tk_WORD_LENGTH : Tok} (k_WORD_LENGTH : mg "WORD_LENGTH" = some (.int 8 tk_WORD_LENGTH)) (TB : GxR.TabB base mg c Pt) [TabIn Z Pt] (hSml : CalF P w Z mg base "is_small" 2 ["sign"] fSml) :
    CalF P w Z mg base "is_word" 5 ["thing"] (aFn 2 (p15Wrd fSml)) := by
  refine ⟨f, fd, D.kp, bd, gl, fnA (k := 4) D scWrd fun A outer s H F hr => ?_⟩
  refine ⟨_, (pss_cons (ps_if (pt_not (pt_val (pe_isiA (n := "str") (p1 := ⟨0, 0, 0, 0⟩) (K := Z.K) rfl (by rfl) m_isinstance (pv 0) (by rfl) m_str PyProof.Rows.boot_str (by decide) (by decide) rfl rfl rfl)))
        (pss_one (ps_ret pe_bl))
        pss_nil)
      (pss_one (ps_ret (pe_and (pe_chain (op_leU (K := Z.K) rfl hr) (op_leU (K := Z.K) rfl hr) pe_int (pe_callB (call_lenU (K := Z.K) rfl) (by rfl) m_len PySem.boot_len (pa_cons (pv 0) pa_nil)) (pe_glob (v := .int 8) (by rfl) k_WORD_LENGTH ⟨_, rfl⟩)) (pe_one (pe_allGA (own := [("sign", 1)]) (vs := [1]) rfl hr (by rfl) m_all TB rfl scWrd.nd (pi_U (K := Z.K) rfl (pv 0)) ⟨(blkOk_by (N := ["thing", "sign"]) (sc := defScope sWrd) (by decide +kernel)), by decide +kernel, rfl, rfl, fun v => rfl, (fun B s H C code fp ga => have hr := ga.room hr; (pg_name (i := 1) scWrd.nd rfl (.inl rfl) (.inr rfl))), (fun B s H C code fp ga => have hr := ga.room hr; pts_nil), (fun B s H C code fp ga => have hr := ga.room hr; (pe_callA (F := F) (n := 1) hSml rfl rfl rfl rfl rfl rfl (hr.mono (by decide)) (by rfl) (pa_cons (pv 1) pa_nil)))⟩)))))), ?_⟩
  exact inferInstance
theorem ok_Isn {f c : Addr} {fd : FuncData} {fWrd fNum fIto : AF} (D : Def Z.K "is_name" sIsn f c fd) (bd : Binds Z.K fd ["thing"] []) (gl : mg "is_name" = some (.ref f)) (hWrd : CalF P w Z mg base "is_word" 5 ["thing"] fWrd) (hNum : CalF P w Z mg base "is_number" 2 ["thing"] fNum) (hIto : CalF P w Z mg base "is_tuple_of" 2 ["many", "thing"] fIto) :
    CalF P w Z mg base "is_name" 7 ["thing"] (aFn 1 (p15Isn fWrd fNum fIto)) := by
  refine ⟨f, fd, D.kp, bd, gl, fnA (k := 6) D scIsn fun A outer s H F hr => ?_⟩
  refine ⟨_, (pss_cons (ps_if (pt_not (pt_val (pe_callA (F := F) (n := 2) hIto rfl rfl rfl rfl rfl rfl (hr.mono (by decide)) (by rfl) (pa_cons pe_int (pa_cons (pv 0) pa_nil)))))
        (pss_one (ps_ret pe_bl))
        pss_nil)
      (pss_one (ps_ret (pe_and (pe_callA (F := F) (n := 1) hNum rfl rfl rfl rfl rfl rfl (hr.mono (by decide)) (by rfl) (pa_cons (pe_ixA (K := Z.K) rfl hr (pv 0) pe_int (fun _ _ => rfl)) pa_nil)) (pe_and (pe_cmpR (op_geU (K := Z.K) rfl hr) (pe_ixA (K := Z.K) rfl hr (pv 0) pe_int (fun _ _ => rfl)) pe_int (nomark _)) (pe_one (pe_callA (F := F) (n := 1) hWrd rfl rfl rfl rfl rfl rfl (hr.mono (by decide)) (by rfl) (pa_cons (pe_ixA (K := Z.K) rfl hr (pv 0) pe_int (fun _ _ => rfl)) pa_nil)))))))), ?_⟩
  exact inferInstance
theorem ok_Nof {f c Pt : Addr} {fd : FuncData} (D : Def Z.K "names_of" sNof f c fd) (bd : Binds Z.K fd ["ledger"] []) (gl : mg "names_of" = some (.ref f)) (m_tuple : mg "tuple" = none) (TB : GxR.TabB base mg c Pt) [TabIn Z Pt] :
    CalF P w Z mg base "names_of" 2 ["ledger"] (aFn 2 p15Nof) := by
  refine ⟨f, fd, D.kp, bd, gl, fnA (k := 1) D scNof fun A outer s H F hr => ?_⟩
  refine ⟨_, (pss_one (ps_ret (pe_tupGA (own := [("change", 1)]) (vs := [1]) rfl hr (by rfl) m_tuple TB rfl scNof.nd (pi_U (K := Z.K) rfl (pv 0)) ⟨(blkOk_by (N := ["ledger", "change"]) (sc := defScope sNof) (by decide +kernel)), by decide +kernel, rfl, rfl, fun v => rfl, (fun B s H C code fp ga => have hr := ga.room hr; (pg_name (i := 1) scNof.nd rfl (.inl rfl) (.inr rfl))), (fun B s H C code fp ga => have hr := ga.room hr; pts_nil), (fun B s H C code fp ga => have hr := ga.room hr; (pe_ixA (K := Z.K) rfl hr (pv 1) pe_int (fun _ _ => rfl)))⟩))), ?_⟩
  exact inferInstance
theorem ok_By {f c : Addr} {fd : FuncData} (D : Def Z.K "by_name" sBy f c fd) (bd : Binds Z.K fd ["ledger"] []) (gl : mg "by_name" = some (.ref f)) :
    CalF P w Z mg base "by_name" 2 ["ledger"] (aFn 2 p15By) := by
  refine ⟨f, fd, D.kp, bd, gl, fnA (k := 1) D scBy fun A outer s H F hr => ?_⟩
  refine ⟨_, (pss_one (ps_ret (pe_dcTA (own := [("change", 1)]) (vs := [1]) rfl (Room.u1 hr) rfl scBy.nd (pi_U (K := Z.K) rfl (pv 0)) (blkOk_by (N := ["ledger", "change"]) (sc := defScope sBy) (by decide +kernel)) (fun _ _ _ _ _ => (pg_name (i := 1) scBy.nd rfl (by first | exact Or.inl rfl | exact Or.inr rfl))) (fun _ _ _ _ _ => pts_nil) (fun _ _ _ _ _ => (pe_ixA (K := Z.K) rfl hr (pv 1) pe_int (fun _ _ => rfl))) (fun _ _ _ _ _ => (pv 1))))), ?_⟩
  exact inferInstance
theorem ok_Eby {f c : Addr} {fd : FuncData} (D : Def Z.K "elders_by" sEby f c fd) (bd : Binds Z.K fd ["base", "found"] []) (gl : mg "elders_by" = some (.ref f)) :
    CalF P w Z mg base "elders_by" 2 ["base", "found"] (aFn 5 p15Eby) := by
  refine ⟨f, fd, D.kp, bd, gl, fnA (k := 1) D scEby fun A outer s H F hr => ?_⟩
  refine ⟨_, (pss_cons (ps_setDcA (i := 2) (own := [("name", 3)]) (vs := [3]) rfl (Room.u1 hr) rfl scEby.nd rfl rfl (sw_dc rfl rfl rfl (by decide +kernel)) (pi_U (K := Z.K) rfl (pv 0)) (blkOk_by (N := ["base", "found", "elders", "name", "elder"]) (sc := defScope sEby) (by decide +kernel)) (fun _ _ _ _ _ => (pg_name (i := 3) scEby.nd rfl (by first | exact Or.inl rfl | exact Or.inr rfl))) (fun _ _ _ _ _ => pts_nil) (fun _ _ _ _ _ => (pv 3)) (fun _ _ _ _ _ => pe_bl))
      (pss_cons (ps_for PassesOwn.never rfl (pi_U (K := Z.K) rfl (pv 0)) (pg_name (i := 3) scEby.nd rfl (by first | exact Or.inl rfl | exact Or.inr rfl))
        (pss_one (ps_for PassesOwn.never rfl (pi_U (K := Z.K) rfl (pe_ixA (K := Z.K) rfl hr (pv 1) (pv 3) (fun _ _ => rfl))) (pg_name (i := 4) scEby.nd rfl (by first | exact Or.inl rfl | exact Or.inr rfl))
        (pss_one (ps_dput (Room.u1 hr) (pv 2) (pv 4) pe_bl rfl)))))
      (pss_one (ps_ret (pv 2))))), ?_⟩
  exact inferInstance
theorem ok_Kno {f c : Addr} {fd : FuncData} {fEby : AF} (D : Def Z.K "knowledge" sKno f c fd) (bd : Binds Z.K fd ["ledger"] []) (gl : mg "knowledge" = some (.ref f)) (hEby : CalF P w Z mg base "elders_by" 2 ["base", "found"] fEby) :
    CalF P w Z mg base "knowledge" 4 ["ledger"] (aFn 3 (p15Kno fEby)) := by
  refine ⟨f, fd, D.kp, bd, gl, fnA (k := 3) D scKno fun A outer s H F hr => ?_⟩
  refine ⟨_, (pss_cons (ps_set (i := 1) scKno.nd rfl (by first | exact Or.inl rfl | exact Or.inr rfl) pe_dnewT)
      (pss_cons (ps_for PassesOwn.never rfl (pi_U (K := Z.K) rfl (pv 0)) (pg_name (i := 2) scKno.nd rfl (by first | exact Or.inl rfl | exact Or.inr rfl))
        (pss_one (ps_dput (Room.u1 hr) (pv 1) (pe_ixA (K := Z.K) rfl hr (pv 2) pe_int (fun _ _ => rfl)) (pe_callA (F := F) (n := 2) hEby rfl rfl rfl rfl rfl rfl (hr.mono (by decide)) (by rfl) (pa_cons (pe_ixA (K := Z.K) rfl hr (pv 2) pe_int (fun _ _ => rfl)) (pa_cons (pv 1) pa_nil))) rfl)))
      (pss_one (ps_ret (pv 1))))), ?_⟩
  exact inferInstance
theorem ok_Cho {f c : Addr} {fd : FuncData} {fIsn : AF} (D : Def Z.K "change_of" sCho f c fd) (bd : Binds Z.K fd ["ledger", "name"] []) (gl : mg "change_of" = some (.ref f)) (hIsn : CalF P w Z mg base "is_name" 7 ["thing"] fIsn) :
    CalF P w Z mg base "change_of" 9 ["ledger", "name"] (aFn 3 (p15Cho fIsn)) := by
  refine ⟨f, fd, D.kp, bd, gl, fnA (k := 8) D scCho fun A outer s H F hr => ?_⟩
  refine ⟨_, (pss_cons (ps_if (pt_val (pe_callA (F := F) (n := 1) hIsn rfl rfl rfl rfl rfl rfl (hr.mono (by decide)) (by rfl) (pa_cons (pv 1) pa_nil)))
        (pss_one (ps_for PassesOwn.never rfl (pi_U (K := Z.K) rfl (pv 0)) (pg_name (i := 2) scCho.nd rfl (by first | exact Or.inl rfl | exact Or.inr rfl))
        (pss_one (ps_if (pt_cmpR (op_eqU (K := Z.K) rfl hr) (pe_ixA (K := Z.K) rfl hr (pv 2) pe_int (fun _ _ => rfl)) (pv 1) (nomark _))
        (pss_one (ps_ret (pv 2)))
        pss_nil))))
        pss_nil)
      (pss_one ps_never)), ?_⟩
  exact inferInstance
theorem ok_Knw {f c Pt : Addr} {fd : FuncData} {fKno fCho : AF} (D : Def Z.K "known" sKnw f c fd) (bd : Binds Z.K fd ["ledger", "name"] []) (gl : mg "known" = some (.ref f)) (m_tuple : mg "tuple" = none) (TB : GxR.TabB base mg c Pt) [TabIn Z Pt] (hKno : CalF P w Z mg base "knowledge" 4 ["ledger"] fKno) (hCho : CalF P w Z mg base "change_of" 9 ["ledger", "name"] fCho) :
    CalF P w Z mg base "known" 11 ["ledger", "name"] (aFn 5 (p15Knw fKno fCho)) := by
  refine ⟨f, fd, D.kp, bd, gl, fnA (k := 10) D scKnw fun A outer s H F hr => ?_⟩
  refine ⟨_, (pss_cons (ps_set (i := 2) scKnw.nd rfl (by first | exact Or.inl rfl | exact Or.inr rfl) (pe_callA (F := F) (n := 2) hCho rfl rfl rfl rfl rfl rfl (hr.mono (by decide)) (by rfl) (pa_cons (pv 0) (pa_cons (pv 1) pa_nil))))
      (pss_cons (ps_set (i := 3) scKnw.nd rfl (by first | exact Or.inl rfl | exact Or.inr rfl) (pe_ixA (K := Z.K) rfl hr (pe_callA (F := F) (n := 1) hKno rfl rfl rfl rfl rfl rfl (hr.mono (by decide)) (by rfl) (pa_cons (pv 0) pa_nil)) (pe_ixA (K := Z.K) rfl hr (pv 2) pe_int (fun _ _ => rfl)) (fun _ _ => rfl)))
      (pss_one (ps_ret (pe_tupGA (own := [("each", 4)]) (vs := [4]) rfl hr (by rfl) m_tuple TB rfl scKnw.nd (pi_U (K := Z.K) rfl (pv 0)) ⟨(blkOk_by (N := ["ledger", "name", "change", "elders", "each"]) (sc := defScope sKnw) (by decide +kernel)), by decide +kernel, rfl, rfl, fun v => rfl, (fun B s H C code fp ga => have hr := ga.room hr; (pg_name (i := 4) scKnw.nd rfl (.inl rfl) (.inr rfl))), (fun B s H C code fp ga => have hr := ga.room hr; (pts_one (pt_cmpR (op_inU (K := Z.K) rfl hr) (pe_ixA (K := Z.K) rfl hr (pv 4) pe_int (fun _ _ => rfl)) (pv 3) rfl))), (fun B s H C code fp ga => have hr := ga.room hr; (pv 4))⟩))))), ?_⟩
  exact inferInstance
theorem ok_Top {f c Pt : Addr} {fd : FuncData} {fNof : AF} (D : Def Z.K "tops" sTop f c fd) (bd : Binds Z.K fd ["ledger"] []) (gl : mg "tops" = some (.ref f)) (m_tuple : mg "tuple" = none) (TB : GxR.TabB base mg c Pt) [TabIn Z Pt] (hNof : CalF P w Z mg base "names_of" 2 ["ledger"] fNof) :
    CalF P w Z mg base "tops" 4 ["ledger"] (aFn 4 (p15Top fNof)) := by
  refine ⟨f, fd, D.kp, bd, gl, fnA (k := 3) D scTop fun A outer s H F hr => ?_⟩
  refine ⟨_, (pss_cons (ps_set (i := 1) scTop.nd rfl (by first | exact Or.inl rfl | exact Or.inr rfl) (pe_dc2A (own := [("change", 2), ("name", 3)]) (vs := [2, 3]) (vs1 := [3]) rfl (Room.u1 hr) rfl scTop.nd (pi_U (K := Z.K) rfl (pv 0)) (blkOk_by (N := ["ledger", "elders", "change", "name"]) (sc := defScope sTop) (by decide +kernel)) (by decide) (fun _ _ _ _ _ => (pg_name (i := 2) scTop.nd rfl (by first | exact Or.inl rfl | exact Or.inr rfl))) (fun _ _ _ _ _ => pts_nil) (fun _ _ _ _ _ => (pi_U (K := Z.K) rfl (pe_ixA (K := Z.K) rfl hr (pv 2) pe_int (fun _ _ => rfl)))) (fun _ _ _ _ _ => (pg_name (i := 3) scTop.nd rfl (by first | exact Or.inl rfl | exact Or.inr rfl))) (fun _ _ _ _ _ => pts_nil) (fun _ _ _ _ _ => (pv 3)) (fun _ _ _ _ _ => pe_bl)))
      (pss_one (ps_ret (pe_tupGA (own := [("name", 3)]) (vs := [3]) rfl hr (by rfl) m_tuple TB rfl scTop.nd (pi_U (K := Z.K) rfl (pe_callA (F := F) (n := 1) hNof rfl rfl rfl rfl rfl rfl (hr.mono (by decide)) (by rfl) (pa_cons (pv 0) pa_nil))) ⟨(blkOk_by (N := ["ledger", "elders", "change", "name"]) (sc := defScope sTop) (by decide +kernel)), by decide +kernel, rfl, rfl, fun v => rfl, (fun B s H C code fp ga => have hr := ga.room hr; (pg_name (i := 3) scTop.nd rfl (.inl rfl) (.inr rfl))), (fun B s H C code fp ga => have hr := ga.room hr; (pts_one (pt_cmpR (op_notInU (K := Z.K) rfl hr) (pv 3) (pv 1) rfl))), (fun B s H C code fp ga => have hr := ga.room hr; (pv 3))⟩)))), ?_⟩
  exact inferInstance
theorem ok_Brn {f c Pt : Addr} {fd : FuncData} {fNof : AF} (D : Def Z.K "branch_names" sBrn f c fd) (bd : Binds Z.K fd ["ledger", "branch"] []) (gl : mg "branch_names" = some (.ref f)) (m_tuple : mg "tuple" = none) (TB : GxR.TabB base mg c Pt) [TabIn Z Pt] (hNof : CalF P w Z mg base "names_of" 2 ["ledger"] fNof) :
    CalF P w Z mg base "branch_names" 4 ["ledger", "branch"] (aFn 3 (p15Brn fNof)) := by
  refine ⟨f, fd, D.kp, bd, gl, fnA (k := 3) D scBrn fun A outer s H F hr => ?_⟩
  refine ⟨_, (pss_one (ps_ret (pe_tupGA (own := [("name", 2)]) (vs := [2]) rfl hr (by rfl) m_tuple TB rfl scBrn.nd (pi_U (K := Z.K) rfl (pe_callA (F := F) (n := 1) hNof rfl rfl rfl rfl rfl rfl (hr.mono (by decide)) (by rfl) (pa_cons (pv 0) pa_nil))) ⟨(blkOk_by (N := ["ledger", "branch", "name"]) (sc := defScope sBrn) (by decide +kernel)), by decide +kernel, rfl, rfl, fun v => rfl, (fun B s H C code fp ga => have hr := ga.room hr; (pg_name (i := 2) scBrn.nd rfl (.inl rfl) (.inr rfl))), (fun B s H C code fp ga => have hr := ga.room hr; (pts_one (pt_cmpR (op_eqU (K := Z.K) rfl hr) (pe_ixA (K := Z.K) rfl hr (pv 2) pe_int (fun _ _ => rfl)) (pv 1) (nomark _)))), (fun B s H C code fp ga => have hr := ga.room hr; (pv 2))⟩))), ?_⟩
  exact inferInstance
theorem ok_Wo {f c Pt : Addr} {fd : FuncData} (D : Def Z.K "without" sWo f c fd) (bd : Binds Z.K fd ["ledger", "names"] []) (gl : mg "without" = some (.ref f)) (m_any : mg "any" = none) (m_tuple : mg "tuple" = none) (TB : GxR.TabB base mg c Pt) [TabIn Z Pt] :
    CalF P w Z mg base "without" 2 ["ledger", "names"] (aFn 7 pWo) := by
  refine ⟨f, fd, D.kp, bd, gl, fnA (k := 1) D scWo fun A outer s H F hr => ?_⟩
  refine ⟨_, (pss_cons (ps_set (i := 2) scWo.nd rfl (by first | exact Or.inl rfl | exact Or.inr rfl) (pe_dcTA (own := [("name", 3)]) (vs := [3]) rfl (Room.u1 hr) rfl scWo.nd (pi_U (K := Z.K) rfl (pv 1)) (blkOk_by (N := ["ledger", "names", "gone", "name", "left", "change", "elder"]) (sc := defScope sWo) (by decide +kernel)) (fun _ _ _ _ _ => (pg_name (i := 3) scWo.nd rfl (by first | exact Or.inl rfl | exact Or.inr rfl))) (fun _ _ _ _ _ => pts_nil) (fun _ _ _ _ _ => (pv 3)) (fun _ _ _ _ _ => pe_bl)))
      (pss_cons (ps_set (i := 4) scWo.nd rfl (by first | exact Or.inl rfl | exact Or.inr rfl) (pe_lstC pa_nil))
      (pss_cons (ps_for PassesOwn.never rfl (pi_U (K := Z.K) rfl (pv 0)) (pg_name (i := 5) scWo.nd rfl (by first | exact Or.inl rfl | exact Or.inr rfl))
        (pss_one (ps_if (PW.pt (pw_or (pt_cmpR (op_inU (K := Z.K) rfl hr) (pe_ixA (K := Z.K) rfl hr (pv 5) pe_int (fun _ _ => rfl)) (pv 2) rfl) (pw_or1 (pt_val (pe_anyGA (own := [("elder", 6)]) (vs := [6]) rfl hr (by rfl) m_any TB rfl scWo.nd (pi_U (K := Z.K) rfl (pe_ixA (K := Z.K) rfl hr (pv 5) pe_int (fun _ _ => rfl))) ⟨(blkOk_by (N := ["ledger", "names", "gone", "name", "left", "change", "elder"]) (sc := defScope sWo) (by decide +kernel)), by decide +kernel, rfl, rfl, fun v => rfl, (fun B s H C code fp ga => have hr := ga.room hr; (pg_name (i := 6) scWo.nd rfl (.inl rfl) (.inr rfl))), (fun B s H C code fp ga => have hr := ga.room hr; pts_nil), (fun B s H C code fp ga => have hr := ga.room hr; (pe_cmpR (op_inU (K := Z.K) rfl hr) (pv 6) (pv 2) rfl))⟩)))))
        (pss_one (ps_dput (Room.u1 hr) (pv 2) (pe_ixA (K := Z.K) rfl hr (pv 5) pe_int (fun _ _ => rfl)) pe_bl rfl))
        (pss_one (ps_expr (pe_bmA (K := Z.K) rfl PySem.F.plainAttrs_list PySem.F.slot_list_append PySem.F.type_list_append mt_append (pv 4) (pa_cons (pv 5) pa_nil)))))))
      (pss_one (ps_ret (pe_callTy (call_tupleU (K := Z.K) rfl) (by rfl) m_tuple PyProof.Rows.boot_tuple (pa_cons (pv 4) pa_nil))))))), ?_⟩
  exact inferInstance
theorem ok_Ein {f c Pt : Addr} {fd : FuncData} {fBy : AF} (D : Def Z.K "in_either" sEin f c fd) (bd : Binds Z.K fd ["one", "other"] []) (gl : mg "in_either" = some (.ref f)) (m_sorted : mg "sorted" = none) (m_tuple : mg "tuple" = none) (TB : GxR.TabB base mg c Pt) [TabIn Z Pt] (hBy : CalF P w Z mg base "by_name" 2 ["ledger"] fBy) :
    CalF P w Z mg base "in_either" 4 ["one", "other"] (aFn 5 (p15Ein fBy)) := by
  refine ⟨f, fd, D.kp, bd, gl, fnA (k := 3) D scEin fun A outer s H F hr => ?_⟩
  refine ⟨_, (pss_cons (ps_set (i := 2) scEin.nd rfl (by first | exact Or.inl rfl | exact Or.inr rfl) (pe_callA (F := F) (n := 1) hBy rfl rfl rfl rfl rfl rfl (hr.mono (by decide)) (by rfl) (pa_cons (pv 1) pa_nil)))
      (pss_cons (ps_for PassesOwn.never rfl (pi_U (K := Z.K) rfl (pv 0)) (pg_name (i := 3) scEin.nd rfl (by first | exact Or.inl rfl | exact Or.inr rfl))
        (pss_one (ps_dput (Room.u1 hr) (pv 2) (pe_ixA (K := Z.K) rfl hr (pv 3) pe_int (fun _ _ => rfl)) (pv 3) rfl)))
      (pss_one (ps_ret (pe_tupGA (own := [("name", 4)]) (vs := [4]) rfl hr (by rfl) m_tuple TB rfl scEin.nd (pi_U (K := Z.K) rfl (pe_callB (call_sortN rfl hr) (by rfl) m_sorted boot_sorted (pa_cons (pv 2) pa_nil))) ⟨(blkOk_by (N := ["one", "other", "whole", "change", "name"]) (sc := defScope sEin) (by decide +kernel)), by decide +kernel, rfl, rfl, fun v => rfl, (fun B s H C code fp ga => have hr := ga.room hr; (pg_name (i := 4) scEin.nd rfl (.inl rfl) (.inr rfl))), (fun B s H C code fp ga => have hr := ga.room hr; pts_nil), (fun B s H C code fp ga => have hr := ga.room hr; (pe_ixA (K := Z.K) rfl hr (pv 2) (pv 4) (fun _ _ => rfl)))⟩))))), ?_⟩
  exact inferInstance
theorem ok_Joi {f c Pt : Addr} {fd : FuncData} {fBrn fKno fBy fEin : AF} (D : Def Z.K "joined" sJoi f c fd) (bd : Binds Z.K fd ["one", "other"] []) (gl : mg "joined" = some (.ref f)) (m_all : mg "all" = none) (m_enumerate : mg "enumerate" = none) (TB : GxR.TabB base mg c Pt) [TabIn Z Pt] (hBrn : CalF P w Z mg base "branch_names" 4 ["ledger", "branch"] fBrn) (hKno : CalF P w Z mg base "knowledge" 4 ["ledger"] fKno) (hBy : CalF P w Z mg base "by_name" 2 ["ledger"] fBy) (hEin : CalF P w Z mg base "in_either" 4 ["one", "other"] fEin) :
    CalF P w Z mg base "joined" 6 ["one", "other"] (aFn 10 (p15Joi fBrn fKno fBy fEin)) := by
  refine ⟨f, fd, D.kp, bd, gl, fnA (k := 5) D scJoi fun A outer s H F hr => ?_⟩
  refine ⟨_, (pss_cons (ps_set (i := 2) scJoi.nd rfl (by first | exact Or.inl rfl | exact Or.inr rfl) (pe_callA (F := F) (n := 2) hEin rfl rfl rfl rfl rfl rfl (hr.mono (by decide)) (by rfl) (pa_cons (pv 0) (pa_cons (pv 1) pa_nil))))
      (pss_cons (ps_set (i := 3) scJoi.nd rfl (by first | exact Or.inl rfl | exact Or.inr rfl) (pe_callA (F := F) (n := 1) hBy rfl rfl rfl rfl rfl rfl (hr.mono (by decide)) (by rfl) (pa_cons (pv 1) pa_nil)))
      (pss_cons (ps_set (i := 4) scJoi.nd rfl (by first | exact Or.inl rfl | exact Or.inr rfl) (pe_callA (F := F) (n := 1) hKno rfl rfl rfl rfl rfl rfl (hr.mono (by decide)) (by rfl) (pa_cons (pv 2) pa_nil)))
      (pss_cons (ps_for PassesOwn.never rfl (pi_enumU (K := Z.K) rfl (by rfl) m_enumerate (pa_cons (pv 2) pa_nil)) (pg_tupA (K := Z.K) rfl rfl (pgs_cons (pg_name (i := 5) scJoi.nd rfl (by first | exact Or.inl rfl | exact Or.inr rfl)) (pgs_cons (pg_name (i := 6) scJoi.nd rfl (by first | exact Or.inl rfl | exact Or.inr rfl)) pgs_nil)))
        (pss_cons (ps_set (i := 7) scJoi.nd rfl (by first | exact Or.inl rfl | exact Or.inr rfl) (pe_ixA (K := Z.K) rfl hr (pv 6) pe_int (fun _ _ => rfl)))
      (pss_cons (ps_if (pt_cmpR (op_neU (K := Z.K) rfl hr) (pe_dget2 (Room.u1 hr) (pv 3) (pv 7) (pv 6) ⟨rfl, rfl, rfl, rfl⟩) (pv 6) (nomark _))
        (pss_one ps_never)
        pss_nil)
      (pss_cons (ps_set (i := 8) scJoi.nd rfl (by first | exact Or.inl rfl | exact Or.inr rfl) (pe_callA (F := F) (n := 2) hBrn rfl rfl rfl rfl rfl rfl (hr.mono (by decide)) (by rfl) (pa_cons (pe_slice (sl_U (K := Z.K) rfl) (pv 2) po_none (po_some (pv 5))) (pa_cons (pe_ixA (K := Z.K) rfl hr (pv 7) pe_int (fun _ _ => rfl)) pa_nil))))
      (pss_one (ps_if (pt_not (pt_val (pe_allGA (own := [("elder", 9)]) (vs := [9]) rfl hr (by rfl) m_all TB rfl scJoi.nd (pi_U (K := Z.K) rfl (pv 8)) ⟨(blkOk_by (N := ["one", "other", "whole", "theirs", "elders", "k", "change", "name", "ahead", "elder"]) (sc := defScope sJoi) (by decide +kernel)), by decide +kernel, rfl, rfl, fun v => rfl, (fun B s H C code fp ga => have hr := ga.room hr; (pg_name (i := 9) scJoi.nd rfl (.inl rfl) (.inr rfl))), (fun B s H C code fp ga => have hr := ga.room hr; pts_nil), (fun B s H C code fp ga => have hr := ga.room hr; (pe_cmpR (op_inU (K := Z.K) rfl hr) (pv 9) (pe_ixA (K := Z.K) rfl hr (pv 4) (pv 7) (fun _ _ => rfl)) rfl))⟩)))
        (pss_one ps_never)
        pss_nil))))))
      (pss_one (ps_ret (pv 2))))))), ?_⟩
  exact inferInstance
theorem ok_Com {f c Pt : Addr} {fd : FuncData} {fBy : AF} (D : Def Z.K "common" sCom f c fd) (bd : Binds Z.K fd ["one", "other"] []) (gl : mg "common" = some (.ref f)) (m_all : mg "all" = none) (m_tuple : mg "tuple" = none) (TB : GxR.TabB base mg c Pt) [TabIn Z Pt] (hBy : CalF P w Z mg base "by_name" 2 ["ledger"] fBy) :
    CalF P w Z mg base "common" 4 ["one", "other"] (aFn 7 (p15Com fBy)) := by
  refine ⟨f, fd, D.kp, bd, gl, fnA (k := 3) D scCom fun A outer s H F hr => ?_⟩
  refine ⟨_, (pss_cons (ps_set (i := 2) scCom.nd rfl (by first | exact Or.inl rfl | exact Or.inr rfl) (pe_callA (F := F) (n := 1) hBy rfl rfl rfl rfl rfl rfl (hr.mono (by decide)) (by rfl) (pa_cons (pv 1) pa_nil)))
      (pss_cons (ps_set (i := 3) scCom.nd rfl (by first | exact Or.inl rfl | exact Or.inr rfl) pe_dnewT)
      (pss_cons (ps_for PassesOwn.never rfl (pi_U (K := Z.K) rfl (pv 0)) (pg_name (i := 4) scCom.nd rfl (by first | exact Or.inl rfl | exact Or.inr rfl))
        (pss_cons (ps_set (i := 5) scCom.nd rfl (by first | exact Or.inl rfl | exact Or.inr rfl) (pe_cmpR (op_eqU (K := Z.K) rfl hr) (pe_dget1 (Room.u1 hr) (pv 2) (pe_ixA (K := Z.K) rfl hr (pv 4) pe_int (fun _ _ => rfl)) ⟨rfl, rfl, rfl, rfl⟩) (pv 4) (nomark _)))
      (pss_one (ps_if (PW.pt (pw_and (pt_val (pv 5)) (pw_and1 (pt_val (pe_allGA (own := [("elder", 6)]) (vs := [6]) rfl hr (by rfl) m_all TB rfl scCom.nd (pi_U (K := Z.K) rfl (pe_ixA (K := Z.K) rfl hr (pv 4) pe_int (fun _ _ => rfl))) ⟨(blkOk_by (N := ["one", "other", "theirs", "shared", "change", "alike", "elder"]) (sc := defScope sCom) (by decide +kernel)), by decide +kernel, rfl, rfl, fun v => rfl, (fun B s H C code fp ga => have hr := ga.room hr; (pg_name (i := 6) scCom.nd rfl (.inl rfl) (.inr rfl))), (fun B s H C code fp ga => have hr := ga.room hr; pts_nil), (fun B s H C code fp ga => have hr := ga.room hr; (pe_cmpR (op_inU (K := Z.K) rfl hr) (pv 6) (pv 3) rfl))⟩)))))
        (pss_one (ps_dput (Room.u1 hr) (pv 3) (pe_ixA (K := Z.K) rfl hr (pv 4) pe_int (fun _ _ => rfl)) (pv 4) rfl))
        pss_nil))))
      (pss_one (ps_ret (pe_tupVals rfl (by rfl) m_tuple (pv 3))))))), ?_⟩
  exact inferInstance
theorem ok_Prt {f c Pt : Addr} {fd : FuncData} {fBy : AF} (D : Def Z.K "is_part" sPrt f c fd) (bd : Binds Z.K fd ["one", "other"] []) (gl : mg "is_part" = some (.ref f)) (m_all : mg "all" = none) (TB : GxR.TabB base mg c Pt) [TabIn Z Pt] (hBy : CalF P w Z mg base "by_name" 2 ["ledger"] fBy) :
    CalF P w Z mg base "is_part" 4 ["one", "other"] (aFn 4 (p15Prt fBy)) := by
  refine ⟨f, fd, D.kp, bd, gl, fnA (k := 3) D scPrt fun A outer s H F hr => ?_⟩
  refine ⟨_, (pss_cons (ps_set (i := 2) scPrt.nd rfl (by first | exact Or.inl rfl | exact Or.inr rfl) (pe_callA (F := F) (n := 1) hBy rfl rfl rfl rfl rfl rfl (hr.mono (by decide)) (by rfl) (pa_cons (pv 1) pa_nil)))
      (pss_one (ps_ret (pe_allGA (own := [("change", 3)]) (vs := [3]) rfl hr (by rfl) m_all TB rfl scPrt.nd (pi_U (K := Z.K) rfl (pv 0)) ⟨(blkOk_by (N := ["one", "other", "theirs", "change"]) (sc := defScope sPrt) (by decide +kernel)), by decide +kernel, rfl, rfl, fun v => rfl, (fun B s H C code fp ga => have hr := ga.room hr; (pg_name (i := 3) scPrt.nd rfl (.inl rfl) (.inr rfl))), (fun B s H C code fp ga => have hr := ga.room hr; pts_nil), (fun B s H C code fp ga => have hr := ga.room hr; (pe_cmpR (op_eqU (K := Z.K) rfl hr) (pe_dget1 (Room.u1 hr) (pv 2) (pe_ixA (K := Z.K) rfl hr (pv 3) pe_int (fun _ _ => rfl)) ⟨rfl, rfl, rfl, rfl⟩) (pv 3) (nomark _)))⟩)))), ?_⟩
  exact inferInstance
theorem ok_Isr {f c Pt : Addr} {fd : FuncData} {fIsn fBy : AF} (D : Def Z.K "is_road" sIsr f c fd) (bd : Binds Z.K fd ["ledger", "thing"] []) (gl : mg "is_road" = some (.ref f)) (m_all : mg "all" = none) (m_isinstance : mg "isinstance" = none) (m_len : mg "len" = none) (m_tuple : mg "tuple" = none) (TB : GxR.TabB base mg c Pt) [TabIn Z Pt] (hIsn : CalF P w Z mg base "is_name" 7 ["thing"] fIsn) (hBy : CalF P w Z mg base "by_name" 2 ["ledger"] fBy) :
    CalF P w Z mg base "is_road" 9 ["ledger", "thing"] (aFn 6 (p15Isr fIsn fBy)) := by
  refine ⟨f, fd, D.kp, bd, gl, fnA (k := 8) D scIsr fun A outer s H F hr => ?_⟩
  refine ⟨_, (pss_cons (ps_if (PW.pt (pw_or (pt_not (pt_val (pe_isiA (n := "tuple") (p1 := ⟨0, 0, 0, 0⟩) (K := Z.K) rfl (by rfl) m_isinstance (pv 1) (by rfl) m_tuple (by decide +kernel) (by decide) (by decide) rfl rfl rfl))) (pw_or1 (pt_cmpR (op_neU (K := Z.K) rfl hr) (pe_callB (call_lenU (K := Z.K) rfl) (by rfl) m_len PySem.boot_len (pa_cons (pv 1) pa_nil)) (pe_callB (call_lenU (K := Z.K) rfl) (by rfl) m_len PySem.boot_len (pa_cons (pv 0) pa_nil)) (nomark _)))))
        (pss_one (ps_ret pe_bl))
        pss_nil)
      (pss_cons (ps_set (i := 2) scIsr.nd rfl (by first | exact Or.inl rfl | exact Or.inr rfl) (pe_callA (F := F) (n := 1) hBy rfl rfl rfl rfl rfl rfl (hr.mono (by decide)) (by rfl) (pa_cons (pv 0) pa_nil)))
      (pss_cons (ps_set (i := 3) scIsr.nd rfl (by first | exact Or.inl rfl | exact Or.inr rfl) pe_dnewT)
      (pss_cons (ps_for PassesOwn.never rfl (pi_U (K := Z.K) rfl (pv 1)) (pg_name (i := 4) scIsr.nd rfl (by first | exact Or.inl rfl | exact Or.inr rfl))
        (pss_cons (ps_if (PW.pt (pw_or (pt_not (pt_val (pe_callA (F := F) (n := 1) hIsn rfl rfl rfl rfl rfl rfl (hr.mono (by decide)) (by rfl) (pa_cons (pv 4) pa_nil)))) (pw_or (pt_cmpR (op_notInU (K := Z.K) rfl hr) (pv 4) (pv 2) rfl) (pw_or1 (pt_cmpR (op_inU (K := Z.K) rfl hr) (pv 4) (pv 3) rfl)))))
        (pss_one (ps_ret pe_bl))
        pss_nil)
      (pss_cons (ps_if (pt_not (pt_val (pe_allGA (own := [("elder", 5)]) (vs := [5]) rfl hr (by rfl) m_all TB rfl scIsr.nd (pi_U (K := Z.K) rfl (pe_ixA (K := Z.K) rfl hr (pe_ixA (K := Z.K) rfl hr (pv 2) (pv 4) (fun _ _ => rfl)) pe_int (fun _ _ => rfl))) ⟨(blkOk_by (N := ["ledger", "thing", "changes", "passed", "name", "elder"]) (sc := defScope sIsr) (by decide +kernel)), by decide +kernel, rfl, rfl, fun v => rfl, (fun B s H C code fp ga => have hr := ga.room hr; (pg_name (i := 5) scIsr.nd rfl (.inl rfl) (.inr rfl))), (fun B s H C code fp ga => have hr := ga.room hr; pts_nil), (fun B s H C code fp ga => have hr := ga.room hr; (pe_cmpR (op_inU (K := Z.K) rfl hr) (pv 5) (pv 3) rfl))⟩)))
        (pss_one (ps_ret pe_bl))
        pss_nil)
      (pss_one (ps_dput (Room.u1 hr) (pv 3) (pv 4) pe_bl rfl)))))
      (pss_one (ps_ret pe_bl)))))), ?_⟩
  exact inferInstance
theorem ok_Rbn {f c : Addr} {fd : FuncData} {fNof : AF} (D : Def Z.K "road_by_names" sRbn f c fd) (bd : Binds Z.K fd ["ledger"] []) (gl : mg "road_by_names" = some (.ref f)) (hNof : CalF P w Z mg base "names_of" 2 ["ledger"] fNof) :
    CalF P w Z mg base "road_by_names" 4 ["ledger"] (aFn 1 (p15Rbn fNof)) := by
  refine ⟨f, fd, D.kp, bd, gl, fnA (k := 3) D scRbn fun A outer s H F hr => ?_⟩
  refine ⟨_, (pss_one (ps_ret (pe_callA (F := F) (n := 1) hNof rfl rfl rfl rfl rfl rfl (hr.mono (by decide)) (by rfl) (pa_cons (pv 0) pa_nil)))), ?_⟩
  exact inferInstance
theorem ok_Feed {f c : Addr} {fd : FuncData} (D : Def Z.K "_law_feed" sFeed f c fd) (bd : Binds Z.K fd ["_law_script"] []) (gl : mg "_law_feed" = some (.ref f)) (m_list : mg "list" = none) :
    CalF P w Z mg base "_law_feed" 2 ["_law_script"] (aFn 1 pFeed) := by
  refine ⟨f, fd, D.kp, bd, gl, fnA (k := 1) D scFeed fun A outer s H F hr => ?_⟩
  refine ⟨_, (pss_one (ps_ret (pe_disp (pps_cons pe_str (pe_callTy (call_listU (K := Z.K) rfl) (by rfl) m_list PyProof.Rows.boot_list (pa_cons (pe_slice (sl_U (K := Z.K) rfl) (pv 0) po_none (po_some pe_int)) pa_nil)) (pps_cons pe_str pe_int (pps_cons pe_str pe_int (pps_cons pe_str pe_int pps_nil)))) rfl rfl (by simp) (by decide)))), ?_⟩
  exact inferInstance
theorem ok_Draw {f c : Addr} {fd : FuncData} (D : Def Z.K "_law_draw" sDraw f c fd) (bd : Binds Z.K fd ["_law_feed_here", "_law_many"] []) (gl : mg "_law_draw" = some (.ref f)) (m_len : mg "len" = none) :
    CalF P w Z mg base "_law_draw" 2 ["_law_feed_here", "_law_many"] (aFn 6 pDraw) := by
  refine ⟨f, fd, D.kp, bd, gl, fnA (k := 1) D scDraw fun A outer s H F hr => ?_⟩
  refine ⟨_, (pss_cons (ps_dput (Room.u1 hr) (pv 0) pe_str (pe_op (op_addU (K := Z.K) rfl) (pe_ixA (K := Z.K) rfl hr (pv 0) pe_str (fun _ _ => rfl)) pe_int) rfl)
      (pss_cons (ps_if (pt_cmpR (op_gtU (K := Z.K) rfl hr) (pe_ixA (K := Z.K) rfl hr (pv 0) pe_str (fun _ _ => rfl)) pe_int (nomark _))
        (pss_cons (ps_set (i := 2) scDraw.nd rfl (by first | exact Or.inl rfl | exact Or.inr rfl) (pe_op op_modU (pe_ixA (K := Z.K) rfl hr (pv 0) pe_str (fun _ _ => rfl)) (pv 1)))
      (pss_cons (ps_dput (Room.u1 hr) (pv 0) pe_str (pe_op op_fdivU (pe_ixA (K := Z.K) rfl hr (pv 0) pe_str (fun _ _ => rfl)) (pv 1)) rfl)
      (pss_one (ps_ret (pv 2)))))
        pss_nil)
      (pss_cons (ps_set (i := 3) scDraw.nd rfl (by first | exact Or.inl rfl | exact Or.inr rfl) (pe_ixA (K := Z.K) rfl hr (pv 0) pe_str (fun _ _ => rfl)))
      (pss_cons (ps_dput (Room.u1 hr) (pv 0) pe_str (pe_op (op_addU (K := Z.K) rfl) (pv 3) pe_int) rfl)
      (pss_cons (ps_set (i := 4) scDraw.nd rfl (by first | exact Or.inl rfl | exact Or.inr rfl) (pe_ifExp (pt_cmpR (op_neU (K := Z.K) rfl hr) (pe_ixA (K := Z.K) rfl hr (pv 0) pe_str (fun _ _ => rfl)) (pe_lst pa_nil) (nomark _)) (pe_ixA (K := Z.K) rfl hr (pe_ixA (K := Z.K) rfl hr (pv 0) pe_str (fun _ _ => rfl)) (pe_op op_modU (pv 3) (pe_callB (call_lenU (K := Z.K) rfl) (by rfl) m_len PySem.boot_len (pa_cons (pe_ixA (K := Z.K) rfl hr (pv 0) pe_str (fun _ _ => rfl)) pa_nil))) (fun _ _ => rfl)) pe_int))
      (pss_cons (ps_if (PW.pt (pw_and (pt_cmpR (op_geU (K := Z.K) rfl hr) (pv 4) (pe_op op_powU pe_int pe_int) (nomark _)) (pw_and1 (pt_cmpR (op_ltU (K := Z.K) rfl hr) (pv 3) (pe_callB (call_lenU (K := Z.K) rfl) (by rfl) m_len PySem.boot_len (pa_cons (pe_ixA (K := Z.K) rfl hr (pv 0) pe_str (fun _ _ => rfl)) pa_nil)) (nomark _)))))
        (pss_cons (ps_dput (Room.u1 hr) (pv 0) pe_str (pe_op op_fdivU (pv 4) (pv 1)) rfl)
      (pss_one (ps_ret (pe_op op_modU (pv 4) (pv 1)))))
        pss_nil)
      (pss_cons (ps_set (i := 5) scDraw.nd rfl (by first | exact Or.inl rfl | exact Or.inr rfl) (pe_op op_modU (pe_op (op_addU (K := Z.K) rfl) (pe_op (op_addU (K := Z.K) rfl) (pe_op op_modU (pv 4) pe_int) (pe_op op_mulU pe_int (pe_ixA (K := Z.K) rfl hr (pv 0) pe_str (fun _ _ => rfl)))) pe_int) pe_int))
      (pss_cons (ps_set (i := 5) scDraw.nd rfl (by first | exact Or.inl rfl | exact Or.inr rfl) (pe_op op_modU (pe_op (op_addU (K := Z.K) rfl) (pe_op (op_addU (K := Z.K) rfl) (pe_op op_mulU (pv 5) (pv 5)) (pe_op op_mulU pe_int (pe_ixA (K := Z.K) rfl hr (pv 0) pe_str (fun _ _ => rfl)))) pe_int) pe_int))
      (pss_one (ps_ret (pe_op op_modU (pe_op op_fdivU (pe_op op_modU (pe_op (op_addU (K := Z.K) rfl) (pe_op op_mulU (pv 5) (pv 5)) (pe_op op_mulU pe_int (pv 5))) pe_int) pe_int) (pv 1)))))))))))), ?_⟩
  exact inferInstance
theorem ok_Words {f c : Addr} {fd : FuncData} {fDraw : AF} (D : Def Z.K "_law_words" sWords f c fd) (bd : Binds Z.K fd ["_law_feed_here", "_law_many"] []) (gl : mg "_law_words" = some (.ref f)) (m_len : mg "len" = none) (m_range : mg "range" = none) (hDraw : CalF P w Z mg base "_law_draw" 2 ["_law_feed_here", "_law_many"] fDraw) :
    CalF P w Z mg base "_law_words" 4 ["_law_feed_here", "_law_many"] (aFn 13 (pWords fDraw)) := by
  refine ⟨f, fd, D.kp, bd, gl, fnA (k := 3) D scWords fun A outer s H F hr => ?_⟩
  refine ⟨_, (pss_cons (ps_set (i := 2) scWords.nd rfl (by first | exact Or.inl rfl | exact Or.inr rfl) pe_str)
      (pss_cons (ps_set (i := 3) scWords.nd rfl (by first | exact Or.inl rfl | exact Or.inr rfl) (pe_callA (F := F) (n := 2) hDraw rfl rfl rfl rfl rfl rfl (hr.mono (by decide)) (by rfl) (pa_cons (pv 0) (pa_cons pe_int pa_nil))))
      (pss_cons (ps_if (pt_cmpR (op_eqU (K := Z.K) rfl hr) (pv 3) pe_int (nomark _))
        (pss_cons (ps_set (i := 4) scWords.nd rfl (by first | exact Or.inl rfl | exact Or.inr rfl) (pe_ixA (K := Z.K) rfl hr (pv 2) (pe_callA (F := F) (n := 2) hDraw rfl rfl rfl rfl rfl rfl (hr.mono (by decide)) (by rfl) (pa_cons (pv 0) (pa_cons pe_int pa_nil))) (fun _ _ => rfl)))
      (pss_one (ps_ret (pe_stpA (K := Z.K) rfl (pe_lcA (own := [("_law_k", 5)]) (vs := [5]) rfl rfl scWords.nd (pi_range1 (by rfl) m_range (pa_cons (pv 1) pa_nil)) (blkOk_by (N := ["_law_feed_here", "_law_many", "_law_abc", "_law_way", "_law_first", "_law_k", "_law_stem", "_law_at", "_law_start", "_law_step_here", "_law_words_here", "_law_tail", "_law_own"]) (sc := defScope sWords) (by decide +kernel)) (fun _ _ _ _ _ => (pg_name (i := 5) scWords.nd rfl (by first | exact Or.inl rfl | exact Or.inr rfl))) (fun _ _ _ _ _ => pts_nil) (fun _ _ _ _ _ => (pe_op op_mulU (pv 4) (pe_op (op_addU (K := Z.K) rfl) (pv 5) pe_int)))) (pe_op op_subU pe_int (pe_op op_mulU pe_int (pe_callA (F := F) (n := 2) hDraw rfl rfl rfl rfl rfl rfl (hr.mono (by decide)) (by rfl) (pa_cons (pv 0) (pa_cons pe_int pa_nil)))))))))
        pss_nil)
      (pss_cons (ps_set (i := 6) scWords.nd rfl (by first | exact Or.inl rfl | exact Or.inr rfl) (pe_bmA (K := Z.K) rfl PySem.F.plainAttrs_str PySem.F.slot_str_join PySem.F.type_str_join (mt_joinU (K := Z.K) rfl) pe_str (pa_cons (pe_lcA (own := [("_law_k", 5)]) (vs := [5]) rfl rfl scWords.nd (pi_range1 (by rfl) m_range (pa_cons (pe_callA (F := F) (n := 2) hDraw rfl rfl rfl rfl rfl rfl (hr.mono (by decide)) (by rfl) (pa_cons (pv 0) (pa_cons pe_int pa_nil))) pa_nil)) (blkOk_by (N := ["_law_feed_here", "_law_many", "_law_abc", "_law_way", "_law_first", "_law_k", "_law_stem", "_law_at", "_law_start", "_law_step_here", "_law_words_here", "_law_tail", "_law_own"]) (sc := defScope sWords) (by decide +kernel)) (fun _ _ _ _ _ => (pg_name (i := 5) scWords.nd rfl (by first | exact Or.inl rfl | exact Or.inr rfl))) (fun _ _ _ _ _ => pts_nil) (fun _ _ _ _ _ => (pe_ixA (K := Z.K) rfl hr (pv 2) (pe_callA (F := F) (n := 2) hDraw rfl rfl rfl rfl rfl rfl (hr.mono (by decide)) (by rfl) (pa_cons (pv 0) (pa_cons pe_int pa_nil))) (fun _ _ => rfl)))) pa_nil)))
      (pss_cons (ps_set (i := 7) scWords.nd rfl (by first | exact Or.inl rfl | exact Or.inr rfl) (pe_callA (F := F) (n := 2) hDraw rfl rfl rfl rfl rfl rfl (hr.mono (by decide)) (by rfl) (pa_cons (pv 0) (pa_cons (pe_op (op_addU (K := Z.K) rfl) (pe_callB (call_lenU (K := Z.K) rfl) (by rfl) m_len PySem.boot_len (pa_cons (pv 6) pa_nil)) pe_int) pa_nil))))
      (pss_cons (ps_set (i := 8) scWords.nd rfl (by first | exact Or.inl rfl | exact Or.inr rfl) (pe_callA (F := F) (n := 2) hDraw rfl rfl rfl rfl rfl rfl (hr.mono (by decide)) (by rfl) (pa_cons (pv 0) (pa_cons pe_int pa_nil))))
      (pss_cons (ps_set (i := 9) scWords.nd rfl (by first | exact Or.inl rfl | exact Or.inr rfl) (pe_ixA (K := Z.K) rfl hr (pe_lst (pa_cons pe_int (pa_cons pe_int (pa_cons pe_int (pa_cons pe_int (pa_cons pe_int (pa_cons pe_int pa_nil))))))) (pe_callA (F := F) (n := 2) hDraw rfl rfl rfl rfl rfl rfl (hr.mono (by decide)) (by rfl) (pa_cons (pv 0) (pa_cons pe_int pa_nil))) (fun _ _ => rfl)))
      (pss_cons (ps_set (i := 10) scWords.nd rfl (by first | exact Or.inl rfl | exact Or.inr rfl) (pe_lstC pa_nil))
      (pss_cons (ps_for PassesOwn.never rfl (pi_range1 (by rfl) m_range (pa_cons (pv 1) pa_nil)) (pg_name (i := 5) scWords.nd rfl (by first | exact Or.inl rfl | exact Or.inr rfl))
        (pss_cons (ps_set (i := 11) scWords.nd rfl (by first | exact Or.inl rfl | exact Or.inr rfl) (pe_op op_mulU (pe_ixA (K := Z.K) rfl hr (pv 2) (pe_callA (F := F) (n := 2) hDraw rfl rfl rfl rfl rfl rfl (hr.mono (by decide)) (by rfl) (pa_cons (pv 0) (pa_cons pe_int pa_nil))) (fun _ _ => rfl)) (pe_callA (F := F) (n := 2) hDraw rfl rfl rfl rfl rfl rfl (hr.mono (by decide)) (by rfl) (pa_cons (pv 0) (pa_cons pe_int pa_nil)))))
      (pss_cons (ps_set (i := 12) scWords.nd rfl (by first | exact Or.inl rfl | exact Or.inr rfl) (pe_ixA (K := Z.K) rfl hr (pv 2) (pe_op op_modU (pe_op (op_addU (K := Z.K) rfl) (pv 8) (pe_op op_mulU (pv 5) (pv 9))) pe_int) (fun _ _ => rfl)))
      (pss_one (ps_expr (pe_bmA (K := Z.K) rfl PySem.F.plainAttrs_list PySem.F.slot_list_append PySem.F.type_list_append mt_append (pv 10) (pa_cons (pe_op (op_addU (K := Z.K) rfl) (pe_op (op_addU (K := Z.K) rfl) (pe_op (op_addU (K := Z.K) rfl) (pe_slice (sl_U (K := Z.K) rfl) (pv 6) po_none (po_some (pv 7))) (pv 12)) (pe_slice (sl_U (K := Z.K) rfl) (pv 6) (po_some (pv 7)) po_none)) (pv 11)) pa_nil)))))))
      (pss_one (ps_ret (pv 10)))))))))))), ?_⟩
  exact inferInstance
theorem ok_Deed {f c : Addr} {fd : FuncData} {fDraw : AF} (D : Def Z.K "_law_deed" sDeed f c fd) (bd : Binds Z.K fd ["_law_feed_here", "_law_world_here", "_law_base", "_law_floor"] []) (gl : mg "_law_deed" = some (.ref f)) (m_len : mg "len" = none) (m_range : mg "range" = none) (hDraw : CalF P w Z mg base "_law_draw" 2 ["_law_feed_here", "_law_many"] fDraw) :
    CalF P w Z mg base "_law_deed" 4 ["_law_feed_here", "_law_world_here", "_law_base", "_law_floor"] (aFn 11 (pDeed fDraw)) := by
  refine ⟨f, fd, D.kp, bd, gl, fnA (k := 3) D scDeed fun A outer s H F hr => ?_⟩
  refine ⟨_, (pss_cons (ps_set (i := 4) scDeed.nd rfl (by first | exact Or.inl rfl | exact Or.inr rfl) pe_str)
      (pss_cons (ps_set (i := 5) scDeed.nd rfl (by first | exact Or.inl rfl | exact Or.inr rfl) (pe_bmA (K := Z.K) rfl PySem.F.plainAttrs_str PySem.F.slot_str_join PySem.F.type_str_join (mt_joinU (K := Z.K) rfl) pe_str (pa_cons (pe_lcA (own := [("_law_k", 6)]) (vs := [6]) rfl rfl scDeed.nd (pi_range1 (by rfl) m_range (pa_cons (pe_op (op_addU (K := Z.K) rfl) pe_int (pe_callA (F := F) (n := 2) hDraw rfl rfl rfl rfl rfl rfl (hr.mono (by decide)) (by rfl) (pa_cons (pv 0) (pa_cons pe_int pa_nil)))) pa_nil)) (blkOk_by (N := ["_law_feed_here", "_law_world_here", "_law_base", "_law_floor", "_law_abc", "_law_letters", "_law_k", "_law_way", "_law_sorts", "_law_name", "_law_hangs"]) (sc := defScope sDeed) (by decide +kernel)) (fun _ _ _ _ _ => (pg_name (i := 6) scDeed.nd rfl (by first | exact Or.inl rfl | exact Or.inr rfl))) (fun _ _ _ _ _ => pts_nil) (fun _ _ _ _ _ => (pe_ixA (K := Z.K) rfl hr (pv 4) (pe_callA (F := F) (n := 2) hDraw rfl rfl rfl rfl rfl rfl (hr.mono (by decide)) (by rfl) (pa_cons (pv 0) (pa_cons pe_int pa_nil))) (fun _ _ => rfl)))) pa_nil)))
      (pss_cons (ps_set (i := 7) scDeed.nd rfl (by first | exact Or.inl rfl | exact Or.inr rfl) (pe_callA (F := F) (n := 2) hDraw rfl rfl rfl rfl rfl rfl (hr.mono (by decide)) (by rfl) (pa_cons (pv 0) (pa_cons pe_int pa_nil))))
      (pss_cons (ps_set (i := 8) scDeed.nd rfl (by first | exact Or.inl rfl | exact Or.inr rfl) (pe_lcA (own := [("_law_name", 9)]) (vs := [9]) rfl rfl scDeed.nd (pi_U (K := Z.K) rfl (pv 3)) (blkOk_by (N := ["_law_feed_here", "_law_world_here", "_law_base", "_law_floor", "_law_abc", "_law_letters", "_law_k", "_law_way", "_law_sorts", "_law_name", "_law_hangs"]) (sc := defScope sDeed) (by decide +kernel)) (fun _ _ _ _ _ => (pg_name (i := 9) scDeed.nd rfl (by first | exact Or.inl rfl | exact Or.inr rfl))) (fun _ _ _ _ _ => pts_nil) (fun _ _ _ _ _ => (pe_ixA (K := Z.K) rfl hr (pe_ixA (K := Z.K) rfl hr (pe_ixA (K := Z.K) rfl hr (pe_ixA (K := Z.K) rfl hr (pv 1) pe_str (fun _ _ => rfl)) (pv 9) (fun _ _ => rfl)) pe_int (fun _ _ => rfl)) pe_int (fun _ _ => rfl)))))
      (pss_cons (ps_setLcA (i := 10) (own := [("_law_k", 6)]) (vs := [6]) rfl rfl scDeed.nd rfl rfl (sw_true rfl rfl rfl (by decide +kernel)) (pi_range1 (by rfl) m_range (pa_cons (pe_callB (call_lenU (K := Z.K) rfl) (by rfl) m_len PySem.boot_len (pa_cons (pv 3) pa_nil)) pa_nil)) (blkOk_by (N := ["_law_feed_here", "_law_world_here", "_law_base", "_law_floor", "_law_abc", "_law_letters", "_law_k", "_law_way", "_law_sorts", "_law_name", "_law_hangs"]) (sc := defScope sDeed) (by decide +kernel)) (fun _ _ _ _ _ => (pg_name (i := 6) scDeed.nd rfl (by first | exact Or.inl rfl | exact Or.inr rfl))) (fun _ _ _ _ _ => (pts_one (pt_cmpR (op_eqU (K := Z.K) rfl hr) (pe_ixA (K := Z.K) rfl hr (pv 8) (pv 6) (fun _ _ => rfl)) pe_str (nomark _)))) (fun _ _ _ _ _ => (pe_ixA (K := Z.K) rfl hr (pv 3) (pv 6) (fun _ _ => rfl))))
      (pss_cons (ps_if (PW.pt (pw_and (pt_cmpR (op_eqU (K := Z.K) rfl hr) (pv 7) pe_int (nomark _)) (pw_and1 (pt_cmpR (op_gtU (K := Z.K) rfl hr) (pe_callB (call_lenU (K := Z.K) rfl) (by rfl) m_len PySem.boot_len (pa_cons (pv 2) pa_nil)) pe_int (nomark _)))))
        (pss_one (ps_ret (pe_tup (pa_cons pe_str pa_nil))))
        pss_nil)
      (pss_cons (ps_if (PW.pt (pw_and (pt_cmpR (op_eqU (K := Z.K) rfl hr) (pv 7) pe_int (nomark _)) (pw_and (pt_cmpR (op_inU (K := Z.K) rfl hr) pe_str (pv 8) rfl) (pw_and1 (pt_cmpR (op_ltU (K := Z.K) rfl hr) (pe_callB (call_lenU (K := Z.K) rfl) (by rfl) m_len PySem.boot_len (pa_cons (pe_ixA (K := Z.K) rfl hr (pv 1) pe_str (fun _ _ => rfl)) pa_nil)) pe_int (nomark _))))))
        (pss_one (ps_ret (pe_tup (pa_cons pe_str (pa_cons pe_int (pa_cons pe_int (pa_cons (pe_ixA (K := Z.K) rfl hr (pe_lst (pa_cons pe_str (pa_cons pe_str pa_nil))) (pe_callA (F := F) (n := 2) hDraw rfl rfl rfl rfl rfl rfl (hr.mono (by decide)) (by rfl) (pa_cons (pv 0) (pa_cons pe_int pa_nil))) (fun _ _ => rfl)) (pa_cons (pv 5) pa_nil))))))))
        pss_nil)
      (pss_cons (ps_if (PW.pt (pw_and (pt_cmpR (op_eqU (K := Z.K) rfl hr) (pv 7) pe_int (nomark _)) (pw_and1 (pt_cmpR (op_neU (K := Z.K) rfl hr) (pv 10) (pe_lst pa_nil) (nomark _)))))
        (pss_one (ps_ret (pe_tup (pa_cons pe_str (pa_cons (pe_ixA (K := Z.K) rfl hr (pv 10) (pe_callA (F := F) (n := 2) hDraw rfl rfl rfl rfl rfl rfl (hr.mono (by decide)) (by rfl) (pa_cons (pv 0) (pa_cons (pe_callB (call_lenU (K := Z.K) rfl) (by rfl) m_len PySem.boot_len (pa_cons (pv 10) pa_nil)) pa_nil))) (fun _ _ => rfl)) (pa_cons (pv 5) pa_nil))))))
        pss_nil)
      (pss_one (ps_ret (pe_tup (pa_cons pe_str (pa_cons pe_int (pa_cons (pv 5) pa_nil)))))))))))))), ?_⟩
  exact inferInstance
theorem ok_Step {f c : Addr} {fd : FuncData} {fDraw fDeed : AF} (D : Def Z.K "_law_step" sStep f c fd) (bd : Binds Z.K fd ["_law_feed_here", "_law_world_here", "_law_words_here"] []) (gl : mg "_law_step" = some (.ref f)) (m_len : mg "len" = none) (m_max : mg "max" = none) (m_sorted : mg "sorted" = none) (m_tuple : mg "tuple" = none) (hDraw : CalF P w Z mg base "_law_draw" 2 ["_law_feed_here", "_law_many"] fDraw) (hDeed : CalF P w Z mg base "_law_deed" 4 ["_law_feed_here", "_law_world_here", "_law_base", "_law_floor"] fDeed) :
    CalF P w Z mg base "_law_step" 6 ["_law_feed_here", "_law_world_here", "_law_words_here"] (aFn 14 (pStep fDraw fDeed)) := by
  refine ⟨f, fd, D.kp, bd, gl, fnA (k := 5) D scStep fun A outer s H F hr => ?_⟩
  refine ⟨_, (pss_cons (ps_set (i := 3) scStep.nd rfl (by first | exact Or.inl rfl | exact Or.inr rfl) (pe_ixA (K := Z.K) rfl hr (pv 2) (pe_callA (F := F) (n := 2) hDraw rfl rfl rfl rfl rfl rfl (hr.mono (by decide)) (by rfl) (pa_cons (pv 0) (pa_cons (pe_callB (call_lenU (K := Z.K) rfl) (by rfl) m_len PySem.boot_len (pa_cons (pv 2) pa_nil)) pa_nil))) (fun _ _ => rfl)))
      (pss_cons (ps_set (i := 4) scStep.nd rfl (by first | exact Or.inl rfl | exact Or.inr rfl) (pe_callB (call_sortN rfl hr) (by rfl) m_sorted boot_sorted (pa_cons (pe_ixA (K := Z.K) rfl hr (pv 1) pe_str (fun _ _ => rfl)) pa_nil)))
      (pss_cons (ps_set (i := 5) scStep.nd rfl (by first | exact Or.inl rfl | exact Or.inr rfl) (pe_ifExp (pt_cmpR (op_inU (K := Z.K) rfl hr) (pv 3) (pe_ixA (K := Z.K) rfl hr (pv 1) pe_str (fun _ _ => rfl)) rfl) (pe_lstC (pa_cons (pe_ixA (K := Z.K) rfl hr (pe_ixA (K := Z.K) rfl hr (pv 1) pe_str (fun _ _ => rfl)) (pv 3) (fun _ _ => rfl)) pa_nil)) (pe_lstC pa_nil)))
      (pss_cons (ps_if (PW.pt (pw_and (pt_cmpR (op_neU (K := Z.K) rfl hr) (pv 4) (pe_lst pa_nil) (nomark _)) (pw_and1 (pt_cmpR (op_ltU (K := Z.K) rfl hr) (pe_callA (F := F) (n := 2) hDraw rfl rfl rfl rfl rfl rfl (hr.mono (by decide)) (by rfl) (pa_cons (pv 0) (pa_cons pe_int pa_nil))) pe_int (nomark _)))))
        (pss_one (ps_expr (pe_bmA (K := Z.K) rfl PySem.F.plainAttrs_list PySem.F.slot_list_append PySem.F.type_list_append mt_append (pv 5) (pa_cons (pe_ixA (K := Z.K) rfl hr (pv 4) (pe_callA (F := F) (n := 2) hDraw rfl rfl rfl rfl rfl rfl (hr.mono (by decide)) (by rfl) (pa_cons (pv 0) (pa_cons (pe_callB (call_lenU (K := Z.K) rfl) (by rfl) m_len PySem.boot_len (pa_cons (pv 4) pa_nil)) pa_nil))) (fun _ _ => rfl)) pa_nil))))
        pss_nil)
      (pss_cons (ps_set (i := 6) scStep.nd rfl (by first | exact Or.inl rfl | exact Or.inr rfl) pe_dnewT)
      (pss_cons (ps_for PassesOwn.never rfl (pi_U (K := Z.K) rfl (pv 5)) (pg_name (i := 7) scStep.nd rfl (by first | exact Or.inl rfl | exact Or.inr rfl))
        (pss_one (ps_for PassesOwn.never rfl (pi_U (K := Z.K) rfl (pe_op (op_addU (K := Z.K) rfl) (pe_ixA (K := Z.K) rfl hr (pe_ixA (K := Z.K) rfl hr (pv 1) pe_str (fun _ _ => rfl)) (pv 7) (fun _ _ => rfl)) (pe_lst (pa_cons (pv 7) pa_nil)))) (pg_name (i := 8) scStep.nd rfl (by first | exact Or.inl rfl | exact Or.inr rfl))
        (pss_one (ps_dput (Room.u1 hr) (pv 6) (pv 8) pe_bl rfl)))))
      (pss_cons (ps_set (i := 9) scStep.nd rfl (by first | exact Or.inl rfl | exact Or.inr rfl) (pe_callB (call_sortN rfl hr) (by rfl) m_sorted boot_sorted (pa_cons (pv 6) pa_nil)))
      (pss_cons (ps_set (i := 10) scStep.nd rfl (by first | exact Or.inl rfl | exact Or.inr rfl) pe_dnewT)
      (pss_cons (ps_for PassesOwn.never rfl (pi_U (K := Z.K) rfl (pv 9)) (pg_name (i := 8) scStep.nd rfl (by first | exact Or.inl rfl | exact Or.inr rfl))
        (pss_one (ps_for PassesOwn.never rfl (pi_U (K := Z.K) rfl (pe_ixA (K := Z.K) rfl hr (pe_ixA (K := Z.K) rfl hr (pv 1) pe_str (fun _ _ => rfl)) (pv 8) (fun _ _ => rfl))) (pg_name (i := 7) scStep.nd rfl (by first | exact Or.inl rfl | exact Or.inr rfl))
        (pss_one (ps_dput (Room.u1 hr) (pv 10) (pv 7) pe_bl rfl)))))
      (pss_cons (ps_set (i := 11) scStep.nd rfl (by first | exact Or.inl rfl | exact Or.inr rfl) (pe_callTy (call_tupleU (K := Z.K) rfl) (by rfl) m_tuple PyProof.Rows.boot_tuple (pa_cons (pe_lcA (own := [("_law_name", 8)]) (vs := [8]) rfl rfl scStep.nd (pi_U (K := Z.K) rfl (pv 9)) (blkOk_by (N := ["_law_feed_here", "_law_world_here", "_law_words_here", "_law_branch", "_law_names", "_law_grounds", "_law_wanted", "_law_one", "_law_name", "_law_floor", "_law_below", "_law_base", "_law_own", "_law_deed_here"]) (sc := defScope sStep) (by decide +kernel)) (fun _ _ _ _ _ => (pg_name (i := 8) scStep.nd rfl (by first | exact Or.inl rfl | exact Or.inr rfl))) (fun _ _ _ _ _ => (pts_one (pt_cmpR (op_notInU (K := Z.K) rfl hr) (pv 8) (pv 10) rfl))) (fun _ _ _ _ _ => (pv 8))) pa_nil)))
      (pss_cons (ps_set (i := 12) scStep.nd rfl (by first | exact Or.inl rfl | exact Or.inr rfl) (pe_tup (pa_cons (pe_op (op_addU (K := Z.K) rfl) pe_int (pe_callBK (call_maxA (K := Z.K) rfl rfl hr) (by rfl) m_max boot_max (pa_cons (pe_lcA (own := [("_law_name", 8)]) (vs := [8]) rfl rfl scStep.nd (pi_U (K := Z.K) rfl (pv 9)) (blkOk_by (N := ["_law_feed_here", "_law_world_here", "_law_words_here", "_law_branch", "_law_names", "_law_grounds", "_law_wanted", "_law_one", "_law_name", "_law_floor", "_law_below", "_law_base", "_law_own", "_law_deed_here"]) (sc := defScope sStep) (by decide +kernel)) (fun _ _ _ _ _ => (pg_name (i := 8) scStep.nd rfl (by first | exact Or.inl rfl | exact Or.inr rfl))) (fun _ _ _ _ _ => pts_nil) (fun _ _ _ _ _ => (pe_ixA (K := Z.K) rfl hr (pv 8) pe_int (fun _ _ => rfl)))) pa_nil) (pk_cons pe_int pk_nil))) (pa_cons (pv 3) pa_nil))))
      (pss_cons (ps_set (i := 13) scStep.nd rfl (by first | exact Or.inl rfl | exact Or.inr rfl) (pe_callA (F := F) (n := 4) hDeed rfl rfl rfl rfl rfl rfl (hr.mono (by decide)) (by rfl) (pa_cons (pv 0) (pa_cons (pv 1) (pa_cons (pv 11) (pa_cons (pv 9) pa_nil))))))
      (pss_cons (ps_if (pt_cmpR (op_eqU (K := Z.K) rfl hr) (pe_ixA (K := Z.K) rfl hr (pv 13) pe_int (fun _ _ => rfl)) pe_str (nomark _))
        (pss_one (ps_expr (pe_bmA (K := Z.K) rfl PySem.F.plainAttrs_list PySem.F.slot_list_append PySem.F.type_list_append mt_append (pe_ixA (K := Z.K) rfl hr (pv 1) pe_str (fun _ _ => rfl)) (pa_cons (pv 12) pa_nil))))
        pss_nil)
      (pss_cons (ps_dput (Room.u1 hr) (pe_ixA (K := Z.K) rfl hr (pv 1) pe_str (fun _ _ => rfl)) (pv 12) (pe_tup (pa_cons (pv 12) (pa_cons (pe_ixA (K := Z.K) rfl hr (pv 2) (pe_callA (F := F) (n := 2) hDraw rfl rfl rfl rfl rfl rfl (hr.mono (by decide)) (by rfl) (pa_cons (pv 0) (pa_cons (pe_callB (call_lenU (K := Z.K) rfl) (by rfl) m_len PySem.boot_len (pa_cons (pv 2) pa_nil)) pa_nil))) (fun _ _ => rfl)) (pa_cons (pv 11) (pa_cons (pv 13) pa_nil))))) rfl)
      (pss_cons (ps_dput (Room.u1 hr) (pe_ixA (K := Z.K) rfl hr (pv 1) pe_str (fun _ _ => rfl)) (pv 12) (pv 9) rfl)
      (pss_one (ps_dput (Room.u1 hr) (pe_ixA (K := Z.K) rfl hr (pv 1) pe_str (fun _ _ => rfl)) (pv 3) (pv 12) rfl))))))))))))))))), ?_⟩
  exact inferInstance
theorem ok_World {f c : Addr} {fd : FuncData} {fStep : AF} (D : Def Z.K "_law_world" sWorld f c fd) (bd : Binds Z.K fd ["_law_feed_here", "_law_words_here", "_law_many"] []) (gl : mg "_law_world" = some (.ref f)) (m_range : mg "range" = none) (hStep : CalF P w Z mg base "_law_step" 6 ["_law_feed_here", "_law_world_here", "_law_words_here"] fStep) :
    CalF P w Z mg base "_law_world" 8 ["_law_feed_here", "_law_words_here", "_law_many"] (aFn 5 (pWorld fStep)) := by
  refine ⟨f, fd, D.kp, bd, gl, fnA (k := 7) D scWorld fun A outer s H F hr => ?_⟩
  refine ⟨_, (pss_cons (ps_set (i := 3) scWorld.nd rfl (by first | exact Or.inl rfl | exact Or.inr rfl) (pe_disp (pps_cons pe_str pe_dnewT (pps_cons pe_str pe_dnewT (pps_cons pe_str pe_dnewK (pps_cons pe_str (pe_lstC pa_nil) pps_nil)))) rfl rfl (by simp) (by decide)))
      (pss_cons (ps_for PassesOwn.never rfl (pi_range1 (by rfl) m_range (pa_cons (pv 2) pa_nil)) (pg_name (i := 4) scWorld.nd rfl (by first | exact Or.inl rfl | exact Or.inr rfl))
        (pss_one (ps_expr (pe_callA (F := F) (n := 3) hStep rfl rfl rfl rfl rfl rfl (hr.mono (by decide)) (by rfl) (pa_cons (pv 0) (pa_cons (pv 3) (pa_cons (pv 1) pa_nil)))))))
      (pss_one (ps_ret (pv 3))))), ?_⟩
  exact inferInstance
theorem ok_Ledger {f c : Addr} {fd : FuncData} (D : Def Z.K "_law_ledger" sLedger f c fd) (bd : Binds Z.K fd ["_law_world_here", "_law_names"] []) (gl : mg "_law_ledger" = some (.ref f)) (m_sorted : mg "sorted" = none) (m_tuple : mg "tuple" = none) :
    CalF P w Z mg base "_law_ledger" 2 ["_law_world_here", "_law_names"] (aFn 3 pLedger) := by
  refine ⟨f, fd, D.kp, bd, gl, fnA (k := 1) D scLedger fun A outer s H F hr => ?_⟩
  refine ⟨_, (pss_one (ps_ret (pe_callTy (call_tupleU (K := Z.K) rfl) (by rfl) m_tuple PyProof.Rows.boot_tuple (pa_cons (pe_lcA (own := [("_law_name", 2)]) (vs := [2]) rfl rfl scLedger.nd (pi_U (K := Z.K) rfl (pe_callB (call_sortN rfl hr) (by rfl) m_sorted boot_sorted (pa_cons (pe_ixA (K := Z.K) rfl hr (pv 0) pe_str (fun _ _ => rfl)) pa_nil))) (blkOk_by (N := ["_law_world_here", "_law_names", "_law_name"]) (sc := defScope sLedger) (by decide +kernel)) (fun _ _ _ _ _ => (pg_name (i := 2) scLedger.nd rfl (by first | exact Or.inl rfl | exact Or.inr rfl))) (fun _ _ _ _ _ => (pts_one (pt_cmpR (op_inU (K := Z.K) rfl hr) (pv 2) (pv 1) rfl))) (fun _ _ _ _ _ => (pe_ixA (K := Z.K) rfl hr (pe_ixA (K := Z.K) rfl hr (pv 0) pe_str (fun _ _ => rfl)) (pv 2) (fun _ _ => rfl)))) pa_nil)))), ?_⟩
  exact inferInstance
theorem ok_Road {f c : Addr} {fd : FuncData} {fDraw : AF} (D : Def Z.K "_law_road" sRoad f c fd) (bd : Binds Z.K fd ["_law_feed_here", "_law_world_here", "_law_names"] []) (gl : mg "_law_road" = some (.ref f)) (m_len : mg "len" = none) (m_list : mg "list" = none) (m_tuple : mg "tuple" = none) (hDraw : CalF P w Z mg base "_law_draw" 2 ["_law_feed_here", "_law_many"] fDraw) :
    CalF P w Z mg base "_law_road" 4 ["_law_feed_here", "_law_world_here", "_law_names"] (aFn 9 (p15Road fDraw)) := by
  refine ⟨f, fd, D.kp, bd, gl, fnA (k := 3) D scRoad fun A outer s H F hr => ?_⟩
  refine ⟨_, (pss_cons (ps_set (i := 3) scRoad.nd rfl (by first | exact Or.inl rfl | exact Or.inr rfl) (pe_callTy (call_listC (K := Z.K) rfl) (by rfl) m_list PyProof.Rows.boot_list (pa_cons (pv 2) pa_nil)))
      (pss_cons (ps_set (i := 4) scRoad.nd rfl (by first | exact Or.inl rfl | exact Or.inr rfl) (pe_lstC pa_nil))
      (pss_cons (ps_set (i := 5) scRoad.nd rfl (by first | exact Or.inl rfl | exact Or.inr rfl) (pe_callA (F := F) (n := 2) hDraw rfl rfl rfl rfl rfl rfl (hr.mono (by decide)) (by rfl) (pa_cons (pv 0) (pa_cons pe_int pa_nil))))
      (pss_cons (ps_while PassesOwn.never (pt_cmpR (op_neU (K := Z.K) rfl hr) (pv 3) (pe_lst pa_nil) (nomark _))
        (pss_cons (ps_setLcA (i := 6) (own := [("_law_name", 7)]) (vs := [7]) rfl rfl scRoad.nd rfl rfl (sw_true rfl rfl rfl (by decide +kernel)) (pi_U (K := Z.K) rfl (pv 3)) (blkOk_by (N := ["_law_feed_here", "_law_world_here", "_law_names", "_law_left", "_law_road_here", "_law_way", "_law_ready", "_law_name", "_law_one"]) (sc := defScope sRoad) (by decide +kernel)) (fun _ _ _ _ _ => (pg_name (i := 7) scRoad.nd rfl (by first | exact Or.inl rfl | exact Or.inr rfl))) (fun _ _ _ _ _ => (pts_one (pt_cmpR (op_eqU (K := Z.K) rfl hr) (pe_lcA (own := [("_law_one", 8)]) (vs := [8]) rfl rfl scRoad.nd (pi_U (K := Z.K) rfl (pe_ixA (K := Z.K) rfl hr (pe_ixA (K := Z.K) rfl hr (pv 1) pe_str (fun _ _ => rfl)) (pv 7) (fun _ _ => rfl))) (blkOk_by (N := ["_law_feed_here", "_law_world_here", "_law_names", "_law_left", "_law_road_here", "_law_way", "_law_ready", "_law_name", "_law_one"]) rfl) (fun _ _ _ _ _ => (pg_name (i := 8) scRoad.nd rfl (by first | exact Or.inl rfl | exact Or.inr rfl))) (fun _ _ _ _ _ => (pts_one (pt_cmpR (op_inU (K := Z.K) rfl hr) (pv 8) (pv 3) rfl))) (fun _ _ _ _ _ => (pv 8))) (pe_lst pa_nil) (nomark _)))) (fun _ _ _ _ _ => (pv 7)))
      (pss_cons (ps_set (i := 7) scRoad.nd rfl (by first | exact Or.inl rfl | exact Or.inr rfl) (pe_ixA (K := Z.K) rfl hr (pv 6) (pe_ixA (K := Z.K) rfl hr (pe_lst (pa_cons (pe_callA (F := F) (n := 2) hDraw rfl rfl rfl rfl rfl rfl (hr.mono (by decide)) (by rfl) (pa_cons (pv 0) (pa_cons (pe_callB (call_lenU (K := Z.K) rfl) (by rfl) m_len PySem.boot_len (pa_cons (pv 6) pa_nil)) pa_nil))) (pa_cons pe_int (pa_cons (pe_op op_subU (pe_callB (call_lenU (K := Z.K) rfl) (by rfl) m_len PySem.boot_len (pa_cons (pv 6) pa_nil)) pe_int) pa_nil)))) (pv 5) (fun _ _ => rfl)) (fun _ _ => rfl)))
      (pss_cons (ps_expr (pe_bmA (K := Z.K) rfl PySem.F.plainAttrs_list PySem.F.slot_list_remove PySem.F.type_list_remove (mt_remD (K := Z.K) rfl (Room.u65 hr)) (pv 3) (pa_cons (pv 7) pa_nil)))
      (pss_one (ps_expr (pe_bmA (K := Z.K) rfl PySem.F.plainAttrs_list PySem.F.slot_list_append PySem.F.type_list_append mt_append (pv 4) (pa_cons (pv 7) pa_nil))))))))
      (pss_one (ps_ret (pe_callTy (call_tupleU (K := Z.K) rfl) (by rfl) m_tuple PyProof.Rows.boot_tuple (pa_cons (pv 4) pa_nil)))))))), ?_⟩
  exact inferInstance
theorem ok_Laid {f c : Addr} {fd : FuncData} {fKnw fCho : AF} (D : Def Z.K "_law_laid" sLaid f c fd) (bd : Binds Z.K fd ["_law_ledger_here", "_law_name"] []) (gl : mg "_law_laid" = some (.ref f)) (m_list : mg "list" = none) (m_tuple : mg "tuple" = none) (hKnw : CalF P w Z mg base "known" 11 ["ledger", "name"] fKnw) (hCho : CalF P w Z mg base "change_of" 9 ["ledger", "name"] fCho) :
    CalF P w Z mg base "_law_laid" 13 ["_law_ledger_here", "_law_name"] (aFn 2 (p15Laid fKnw fCho)) := by
  refine ⟨f, fd, D.kp, bd, gl, fnA (k := 12) D scLaid fun A outer s H F hr => ?_⟩
  refine ⟨_, (pss_one (ps_ret (pe_callTy (call_tupleU (K := Z.K) rfl) (by rfl) m_tuple PyProof.Rows.boot_tuple (pa_cons (pe_op (op_addU (K := Z.K) rfl) (pe_callTy (call_listU (K := Z.K) rfl) (by rfl) m_list PyProof.Rows.boot_list (pa_cons (pe_callA (F := F) (n := 2) hKnw rfl rfl rfl rfl rfl rfl (hr.mono (by decide)) (by rfl) (pa_cons (pv 0) (pa_cons (pv 1) pa_nil))) pa_nil)) (pe_lst (pa_cons (pe_callA (F := F) (n := 2) hCho rfl rfl rfl rfl rfl rfl (hr.mono (by decide)) (by rfl) (pa_cons (pv 0) (pa_cons (pv 1) pa_nil))) pa_nil))) pa_nil)))), ?_⟩
  exact inferInstance
theorem ok_Srt {f c : Addr} {fd : FuncData} {fTop fKnw fRbn fPrt : AF} (D : Def Z.K "_law_stage_right" sSrt f c fd) (bd : Binds Z.K fd ["_law_ledger_here", "_law_stage", "_law_names"] []) (gl : mg "_law_stage_right" = some (.ref f)) (m_list : mg "list" = none) (m_repr : mg "repr" = none) (m_sorted : mg "sorted" = none) (hTop : CalF P w Z mg base "tops" 4 ["ledger"] fTop) (hKnw : CalF P w Z mg base "known" 11 ["ledger", "name"] fKnw) (hRbn : CalF P w Z mg base "road_by_names" 4 ["ledger"] fRbn) (hPrt : CalF P w Z mg base "is_part" 4 ["one", "other"] fPrt) :
    CalG P w Z mg base "_law_stage_right" 13 ["_law_ledger_here", "_law_stage", "_law_names"] (aFn 4 (p15Srt fTop fKnw fRbn fPrt)) := by
  refine ⟨f, fd, D.kp, bd, gl, fnG (k := 12) D scSrt fun A outer s H F hr hg => ?_⟩
  have hgu : (A.deeper (envOfC "_law_stage_right" (defScope sSrt) s.heap.objs.size f (.ref c))).guards = some [] := hg
  refine ⟨_, (pss_cons (ps_if (PW.pt (pw_or (pt_cmp (pc_noB (pe_callA (F := F) (n := 2) hPrt rfl rfl rfl rfl rfl rfl (hr.mono (by decide)) (by rfl) (pa_cons (pv 1) (pa_cons (pv 0) pa_nil))))) (pw_or1 (pt_cmpR (op_neU (K := Z.K) rfl hr) (pe_callTy (call_listU (K := Z.K) rfl) (by rfl) m_list PyProof.Rows.boot_list (pa_cons (pe_callA (F := F) (n := 1) hRbn rfl rfl rfl rfl rfl rfl (hr.mono (by decide)) (by rfl) (pa_cons (pv 1) pa_nil)) pa_nil)) (pe_callB (call_sortLA (K := Z.K) rfl rfl hr) (by rfl) m_sorted boot_sorted (pa_cons (pv 2) pa_nil)) (nomark _)))))
        (pss_one (ps_ret pe_bl))
        pss_nil)
      (pss_cons (ps_for PassesOwn.never rfl (pi_U (K := Z.K) rfl (pv 2)) (pg_name (i := 3) scSrt.nd rfl (by first | exact Or.inl rfl | exact Or.inr rfl))
        (pss_one (ps_if (pt_cmpR (op_neU (K := Z.K) rfl hr) (pe_callB (call_reprU (K := Z.K) rfl hgu hr) (by rfl) m_repr boot_repr (pa_cons (pe_callA (F := F) (n := 2) hKnw rfl rfl rfl rfl rfl rfl (hr.mono (by decide)) (by rfl) (pa_cons (pv 1) (pa_cons (pv 3) pa_nil))) pa_nil)) (pe_callB (call_reprU (K := Z.K) rfl hgu hr) (by rfl) m_repr boot_repr (pa_cons (pe_callA (F := F) (n := 2) hKnw rfl rfl rfl rfl rfl rfl (hr.mono (by decide)) (by rfl) (pa_cons (pv 0) (pa_cons (pv 3) pa_nil))) pa_nil)) (nomark _))
        (pss_one (ps_ret pe_bl))
        pss_nil)))
      (pss_one (ps_ret (pe_cmpR (op_eqU (K := Z.K) rfl hr) (pe_lcA (own := [("_law_name", 3)]) (vs := [3]) rfl rfl scSrt.nd (pi_U (K := Z.K) rfl (pe_callA (F := F) (n := 1) hTop rfl rfl rfl rfl rfl rfl (hr.mono (by decide)) (by rfl) (pa_cons (pv 1) pa_nil))) (blkOk_by (N := ["_law_ledger_here", "_law_stage", "_law_names", "_law_name"]) (sc := defScope sSrt) (by decide +kernel)) (fun _ _ _ _ _ => (pg_name (i := 3) scSrt.nd rfl (by first | exact Or.inl rfl | exact Or.inr rfl))) (fun _ _ _ _ _ => (pts_one (pt_cmpR (op_notInU (K := Z.K) rfl hr) (pv 3) (pv 2) rfl))) (fun _ _ _ _ _ => (pv 3))) (pe_lst pa_nil) (nomark _)))))), ?_⟩
  exact inferInstance
theorem ok_Byr {f c : Addr} {fd : FuncData} {fSrt fDraw fJoi fLaid : AF} (D : Def Z.K "_law_by_road" sByr f c fd) (bd : Binds Z.K fd ["_law_feed_here", "_law_ledger_here", "_law_road_here"] []) (gl : mg "_law_by_road" = some (.ref f)) (hSrt : CalG P w Z mg base "_law_stage_right" 13 ["_law_ledger_here", "_law_stage", "_law_names"] fSrt) (hDraw : CalF P w Z mg base "_law_draw" 2 ["_law_feed_here", "_law_many"] fDraw) (hJoi : CalF P w Z mg base "joined" 6 ["one", "other"] fJoi) (hLaid : CalF P w Z mg base "_law_laid" 13 ["_law_ledger_here", "_law_name"] fLaid) :
    CalG P w Z mg base "_law_by_road" 15 ["_law_feed_here", "_law_ledger_here", "_law_road_here"] (aFn 7 (p15Byr fSrt fDraw fJoi fLaid)) := by
  refine ⟨f, fd, D.kp, bd, gl, fnG (k := 14) D scByr fun A outer s H F hr hg => ?_⟩
  have hgu : (A.deeper (envOfC "_law_by_road" (defScope sByr) s.heap.objs.size f (.ref c))).guards = some [] := hg
  refine ⟨_, (pss_cons (ps_set (i := 3) scByr.nd rfl (by first | exact Or.inl rfl | exact Or.inr rfl) (pe_lstC (pa_cons (pe_tup pa_nil) pa_nil)))
      (pss_cons (ps_set (i := 4) scByr.nd rfl (by first | exact Or.inl rfl | exact Or.inr rfl) (pe_lstC pa_nil))
      (pss_cons (ps_for PassesOwn.never rfl (pi_U (K := Z.K) rfl (pv 2)) (pg_name (i := 5) scByr.nd rfl (by first | exact Or.inl rfl | exact Or.inr rfl))
        (pss_cons (ps_set (i := 6) scByr.nd rfl (by first | exact Or.inl rfl | exact Or.inr rfl) (pe_callA (F := F) (n := 2) hLaid rfl rfl rfl rfl rfl rfl (hr.mono (by decide)) (by rfl) (pa_cons (pv 1) (pa_cons (pv 5) pa_nil))))
      (pss_cons (ps_expr (pe_bmA (K := Z.K) rfl PySem.F.plainAttrs_list PySem.F.slot_list_append PySem.F.type_list_append mt_append (pv 3) (pa_cons (pe_ifExp (pt_cmpR (op_eqU (K := Z.K) rfl hr) (pe_callA (F := F) (n := 2) hDraw rfl rfl rfl rfl rfl rfl (hr.mono (by decide)) (by rfl) (pa_cons (pv 0) (pa_cons pe_int pa_nil))) pe_int (nomark _)) (pe_callA (F := F) (n := 2) hJoi rfl rfl rfl rfl rfl rfl (hr.mono (by decide)) (by rfl) (pa_cons (pv 6) (pa_cons (pe_ixA (K := Z.K) rfl hr (pv 3) (pe_un un_negU pe_int) (fun _ _ => rfl)) pa_nil))) (pe_callA (F := F) (n := 2) hJoi rfl rfl rfl rfl rfl rfl (hr.mono (by decide)) (by rfl) (pa_cons (pe_ixA (K := Z.K) rfl hr (pv 3) (pe_un un_negU pe_int) (fun _ _ => rfl)) (pa_cons (pv 6) pa_nil)))) pa_nil)))
      (pss_cons (ps_expr (pe_bmA (K := Z.K) rfl PySem.F.plainAttrs_list PySem.F.slot_list_append PySem.F.type_list_append mt_append (pv 4) (pa_cons (pv 5) pa_nil)))
      (pss_one (ps_if (pt_not (pt_val (pe_callGA (F := F) (n := 3) hSrt rfl rfl rfl rfl rfl rfl (hr.mono (by decide)) hgu (by rfl) (pa_cons (pv 1) (pa_cons (pe_ixA (K := Z.K) rfl hr (pv 3) (pe_un un_negU pe_int) (fun _ _ => rfl)) (pa_cons (pv 4) pa_nil))))))
        (pss_one (ps_ret pe_non))
        pss_nil))))))
      (pss_one (ps_ret (pv 3)))))), ?_⟩
  exact inferInstance
theorem ok_Lum {f c : Addr} {fd : FuncData} {fTop fJoi fLaid fDraw : AF} (D : Def Z.K "_law_in_lumps" sLum f c fd) (bd : Binds Z.K fd ["_law_feed_here", "_law_ledger_here", "_law_names"] []) (gl : mg "_law_in_lumps" = some (.ref f)) (m_int : mg "int" = none) (m_len : mg "len" = none) (m_range : mg "range" = none) (hTop : CalF P w Z mg base "tops" 4 ["ledger"] fTop) (hJoi : CalF P w Z mg base "joined" 6 ["one", "other"] fJoi) (hLaid : CalF P w Z mg base "_law_laid" 13 ["_law_ledger_here", "_law_name"] fLaid) (hDraw : CalF P w Z mg base "_law_draw" 2 ["_law_feed_here", "_law_many"] fDraw) :
    CalF P w Z mg base "_law_in_lumps" 15 ["_law_feed_here", "_law_ledger_here", "_law_names"] (aFn 6 (p15Lum fTop fJoi fLaid fDraw)) := by
  refine ⟨f, fd, D.kp, bd, gl, fnA (k := 14) D scLum fun A outer s H F hr => ?_⟩
  refine ⟨_, (pss_cons (ps_set (i := 3) scLum.nd rfl (by first | exact Or.inl rfl | exact Or.inr rfl) (pe_tup pa_nil))
      (pss_cons (ps_for PassesOwn.never rfl (pi_range1 (by rfl) m_range (pa_cons (pe_op op_mulU (pe_callA (F := F) (n := 2) hDraw rfl rfl rfl rfl rfl rfl (hr.mono (by decide)) (by rfl) (pa_cons (pv 0) (pa_cons pe_int pa_nil))) (pe_callTy call_intU (by rfl) m_int PyProof.Rows.boot_int (pa_cons (pe_cmpR (op_neU (K := Z.K) rfl hr) (pv 2) (pe_lst pa_nil) (nomark _)) pa_nil))) pa_nil)) (pg_name (i := 4) scLum.nd rfl (by first | exact Or.inl rfl | exact Or.inr rfl))
        (pss_one (ps_set (i := 3) scLum.nd rfl (by first | exact Or.inl rfl | exact Or.inr rfl) (pe_callA (F := F) (n := 2) hJoi rfl rfl rfl rfl rfl rfl (hr.mono (by decide)) (by rfl) (pa_cons (pv 3) (pa_cons (pe_callA (F := F) (n := 2) hLaid rfl rfl rfl rfl rfl rfl (hr.mono (by decide)) (by rfl) (pa_cons (pv 1) (pa_cons (pe_ixA (K := Z.K) rfl hr (pv 2) (pe_callA (F := F) (n := 2) hDraw rfl rfl rfl rfl rfl rfl (hr.mono (by decide)) (by rfl) (pa_cons (pv 0) (pa_cons (pe_callB (call_lenU (K := Z.K) rfl) (by rfl) m_len PySem.boot_len (pa_cons (pv 2) pa_nil)) pa_nil))) (fun _ _ => rfl)) pa_nil))) pa_nil))))))
      (pss_cons (ps_for PassesOwn.never rfl (pi_U (K := Z.K) rfl (pe_callA (F := F) (n := 1) hTop rfl rfl rfl rfl rfl rfl (hr.mono (by decide)) (by rfl) (pa_cons (pv 1) pa_nil))) (pg_name (i := 5) scLum.nd rfl (by first | exact Or.inl rfl | exact Or.inr rfl))
        (pss_one (ps_set (i := 3) scLum.nd rfl (by first | exact Or.inl rfl | exact Or.inr rfl) (pe_callA (F := F) (n := 2) hJoi rfl rfl rfl rfl rfl rfl (hr.mono (by decide)) (by rfl) (pa_cons (pe_callA (F := F) (n := 2) hLaid rfl rfl rfl rfl rfl rfl (hr.mono (by decide)) (by rfl) (pa_cons (pv 1) (pa_cons (pv 5) pa_nil))) (pa_cons (pv 3) pa_nil))))))
      (pss_one (ps_ret (pv 3)))))), ?_⟩
  exact inferInstance
theorem ok_Law {f c : Addr} {fd : FuncData} {fLum fWo fCom fDraw fByr fIsr fRoad fLedger fWorld fWords fFeed : AF} (D : Def Z.K "law" sLaw f c fd) (bd : Binds Z.K fd ["_law_script"] []) (gl : mg "law" = some (.ref f)) (m_len : mg "len" = none) (m_min : mg "min" = none) (m_range : mg "range" = none) (m_repr : mg "repr" = none) (m_sorted : mg "sorted" = none) (hLum : CalF P w Z mg base "_law_in_lumps" 15 ["_law_feed_here", "_law_ledger_here", "_law_names"] fLum) (hWo : CalF P w Z mg base "without" 2 ["ledger", "names"] fWo) (hCom : CalF P w Z mg base "common" 4 ["one", "other"] fCom) (hDraw : CalF P w Z mg base "_law_draw" 2 ["_law_feed_here", "_law_many"] fDraw) (hByr : CalG P w Z mg base "_law_by_road" 15 ["_law_feed_here", "_law_ledger_here", "_law_road_here"] fByr) (hIsr : CalF P w Z mg base "is_road" 9 ["ledger", "thing"] fIsr) (hRoad : CalF P w Z mg base "_law_road" 4 ["_law_feed_here", "_law_world_here", "_law_names"] fRoad) (hLedger : CalF P w Z mg base "_law_ledger" 2 ["_law_world_here", "_law_names"] fLedger) (hWorld : CalF P w Z mg base "_law_world" 8 ["_law_feed_here", "_law_words_here", "_law_many"] fWorld) (hWords : CalF P w Z mg base "_law_words" 4 ["_law_feed_here", "_law_many"] fWords) (hFeed : CalF P w Z mg base "_law_feed" 2 ["_law_script"] fFeed) :
    FnG P w Z.K mg base 17 f fd ["_law_script"] (spA Z 1 (aFn 11 (p15Law fLum fWo fCom fDraw fByr fIsr fRoad fLedger fWorld fWords fFeed))) := by
  refine fnG (k := 16) D scLaw fun A outer s H F hr hg => ?_
  have hgu : (A.deeper (envOfC "law" (defScope sLaw) s.heap.objs.size f (.ref c))).guards = some [] := hg
  refine ⟨_, (pss_cons (ps_set (i := 1) scLaw.nd rfl (by first | exact Or.inl rfl | exact Or.inr rfl) (pe_callA (F := F) (n := 1) hFeed rfl rfl rfl rfl rfl rfl (hr.mono (by decide)) (by rfl) (pa_cons (pv 0) pa_nil)))
      (pss_cons (ps_set (i := 2) scLaw.nd rfl (by first | exact Or.inl rfl | exact Or.inr rfl) (pe_callA (F := F) (n := 2) hWords rfl rfl rfl rfl rfl rfl (hr.mono (by decide)) (by rfl) (pa_cons (pv 1) (pa_cons (pe_op (op_addU (K := Z.K) rfl) pe_int (pe_callA (F := F) (n := 2) hDraw rfl rfl rfl rfl rfl rfl (hr.mono (by decide)) (by rfl) (pa_cons (pv 1) (pa_cons pe_int pa_nil)))) pa_nil))))
      (pss_cons (ps_set (i := 3) scLaw.nd rfl (by first | exact Or.inl rfl | exact Or.inr rfl) (pe_callA (F := F) (n := 3) hWorld rfl rfl rfl rfl rfl rfl (hr.mono (by decide)) (by rfl) (pa_cons (pv 1) (pa_cons (pv 2) (pa_cons (pe_callA (F := F) (n := 2) hDraw rfl rfl rfl rfl rfl rfl (hr.mono (by decide)) (by rfl) (pa_cons (pv 1) (pa_cons pe_int pa_nil))) pa_nil)))))
      (pss_cons (ps_set (i := 4) scLaw.nd rfl (by first | exact Or.inl rfl | exact Or.inr rfl) (pe_callB (call_sortN rfl hr) (by rfl) m_sorted boot_sorted (pa_cons (pe_ixA (K := Z.K) rfl hr (pv 3) pe_str (fun _ _ => rfl)) pa_nil)))
      (pss_cons (ps_set (i := 5) scLaw.nd rfl (by first | exact Or.inl rfl | exact Or.inr rfl) (pe_callA (F := F) (n := 2) hLedger rfl rfl rfl rfl rfl rfl (hr.mono (by decide)) (by rfl) (pa_cons (pv 3) (pa_cons (pv 4) pa_nil))))
      (pss_cons (ps_for PassesOwn.never rfl (pi_range1 (by rfl) m_range (pa_cons pe_int pa_nil)) (pg_name (i := 6) scLaw.nd rfl (by first | exact Or.inl rfl | exact Or.inr rfl))
        (pss_cons (ps_set (i := 7) scLaw.nd rfl (by first | exact Or.inl rfl | exact Or.inr rfl) (pe_callA (F := F) (n := 3) hRoad rfl rfl rfl rfl rfl rfl (hr.mono (by decide)) (by rfl) (pa_cons (pv 1) (pa_cons (pv 3) (pa_cons (pv 4) pa_nil)))))
      (pss_cons (ps_if (pt_cmp (pc_noB (pe_callA (F := F) (n := 2) hIsr rfl rfl rfl rfl rfl rfl (hr.mono (by decide)) (by rfl) (pa_cons (pv 5) (pa_cons (pv 7) pa_nil)))))
        (pss_one (ps_ret pe_bl))
        pss_nil)
      (pss_cons (ps_set (i := 8) scLaw.nd rfl (by first | exact Or.inl rfl | exact Or.inr rfl) (pe_callGA (F := F) (n := 3) hByr rfl rfl rfl rfl rfl rfl (hr.mono (by decide)) hgu (by rfl) (pa_cons (pv 1) (pa_cons (pv 5) (pa_cons (pv 7) pa_nil)))))
      (pss_cons (ps_if (PW.pt (pw_or (pt_cmp (pc_isN (pv 8))) (pw_or1 (pt_cmpR (op_neU (K := Z.K) rfl hr) (pe_callB (call_reprU (K := Z.K) rfl hgu hr) (by rfl) m_repr boot_repr (pa_cons (pe_ixA (K := Z.K) rfl hr (pv 8) (pe_un un_negU pe_int) (fun _ _ => rfl)) pa_nil)) (pe_callB (call_reprU (K := Z.K) rfl hgu hr) (by rfl) m_repr boot_repr (pa_cons (pv 5) pa_nil)) (nomark _)))))
        (pss_one (ps_ret pe_bl))
        pss_nil)
      (pss_cons (ps_par (i := 9) (j := 10) rfl scLaw.nd rfl rfl (by decide) rfl rfl (pa_cons (pe_callA (F := F) (n := 2) hDraw rfl rfl rfl rfl rfl rfl (hr.mono (by decide)) (by rfl) (pa_cons (pv 1) (pa_cons (pe_callB (call_lenU (K := Z.K) rfl) (by rfl) m_len PySem.boot_len (pa_cons (pv 8) pa_nil)) pa_nil))) (pa_cons (pe_callA (F := F) (n := 2) hDraw rfl rfl rfl rfl rfl rfl (hr.mono (by decide)) (by rfl) (pa_cons (pv 1) (pa_cons (pe_callB (call_lenU (K := Z.K) rfl) (by rfl) m_len PySem.boot_len (pa_cons (pv 8) pa_nil)) pa_nil))) pa_nil)) rfl)
      (pss_cons (ps_if (pt_cmpR (op_neU (K := Z.K) rfl hr) (pe_callB (call_reprU (K := Z.K) rfl hgu hr) (by rfl) m_repr boot_repr (pa_cons (pe_callA (F := F) (n := 2) hCom rfl rfl rfl rfl rfl rfl (hr.mono (by decide)) (by rfl) (pa_cons (pe_ixA (K := Z.K) rfl hr (pv 8) (pv 9) (fun _ _ => rfl)) (pa_cons (pe_ixA (K := Z.K) rfl hr (pv 8) (pv 10) (fun _ _ => rfl)) pa_nil))) pa_nil)) (pe_callB (call_reprU (K := Z.K) rfl hgu hr) (by rfl) m_repr boot_repr (pa_cons (pe_ixA (K := Z.K) rfl hr (pv 8) (pe_callB (call_min2A rfl) (by rfl) m_min boot_minA (pa_cons (pv 9) (pa_cons (pv 10) pa_nil))) (fun _ _ => rfl)) pa_nil)) (nomark _))
        (pss_one (ps_ret pe_bl))
        pss_nil)
      (pss_cons (ps_if (pt_cmpR (op_neU (K := Z.K) rfl hr) (pe_callB (call_reprU (K := Z.K) rfl hgu hr) (by rfl) m_repr boot_repr (pa_cons (pe_callA (F := F) (n := 2) hWo rfl rfl rfl rfl rfl rfl (hr.mono (by decide)) (by rfl) (pa_cons (pv 5) (pa_cons (pe_slice (sl_U (K := Z.K) rfl) (pv 7) (po_some (pv 9)) po_none) pa_nil))) pa_nil)) (pe_callB (call_reprU (K := Z.K) rfl hgu hr) (by rfl) m_repr boot_repr (pa_cons (pe_ixA (K := Z.K) rfl hr (pv 8) (pv 9) (fun _ _ => rfl)) pa_nil)) (nomark _))
        (pss_one (ps_ret pe_bl))
        pss_nil)
      (pss_one (ps_if (pt_cmpR (op_neU (K := Z.K) rfl hr) (pe_callB (call_reprU (K := Z.K) rfl hgu hr) (by rfl) m_repr boot_repr (pa_cons (pe_callA (F := F) (n := 3) hLum rfl rfl rfl rfl rfl rfl (hr.mono (by decide)) (by rfl) (pa_cons (pv 1) (pa_cons (pv 5) (pa_cons (pv 4) pa_nil)))) pa_nil)) (pe_callB (call_reprU (K := Z.K) rfl hgu hr) (by rfl) m_repr boot_repr (pa_cons (pv 5) pa_nil)) (nomark _))
        (pss_one (ps_ret pe_bl))
        pss_nil))))))))))
      (pss_one (ps_ret pe_bl)))))))), ?_⟩
  exact inferInstance
end
end K15

set_option maxHeartbeats 4000000
namespace K15
open PySem PySem.Spec PyProof.Rows L2 Mw Aw Lw
theorem _root_.Mw.tabIn_of {K : PySem.W.Frag} {x : Str} {f c Q : Addr} {oc e : Value} {od dd : Option Addr} {fd : FuncData} {sl sl2 : Array (Option Value)} {vs : Array Value} (a : PySem.W.nsIn K mainGlobals x = some (some (.ref f)))
    (l : K.lookup f = some ⟨oc, od, .func fd, sl⟩) (hc : fd.code = .ref c) (lc : K.lookup c = some ⟨e, dd, .fields vs, sl2⟩) (hv : vs[11]? = some (.ref Q)) : PySem.W.tabIn K x = some (c, Q) := by
  unfold PySem.W.tabIn
  rw [a]
  simp only [l, hc, lc, hv]
theorem all_mk {l : PySem.W.OpenLaw} {w : World} {K : PySem.W.Frag} {h : Heap} {mg : Str → Option Value} {fa f1 f2 f3 f4 f5 f6 f7 f8 f9 f10 f11 f12 f13 f14 f15 f16 f17 f18 f19 f20 f21 f22 f23 f24 f25 f26 f27 f28 f29 f30 f31 f32 f33 c1 c2 c3 c4 c5 c6 c7 c8 c9 c10 c11 c12 c13 c14 c15 c16 c17 c18 c19 c20 c21 c22 c23 c24 c25 c26 c27 c28 c29 c30 c31 c32 c33 P4 P6 P11 P12 P13 P14 P15 P16 P17 P18 P19 : Addr}
    {od1 an1 od2 an2 od3 an3 od4 an4 od5 an5 od6 an6 od7 an7 od8 an8 od9 an9 od10 an10 od11 an11 od12 an12 od13 an13 od14 an14 od15 an15 od16 an16 od17 an17 od18 an18 od19 an19 od20 an20 od21 an21 od22 an22 od23 an23 od24 an24 od25 an25 od26 an26 od27 an27 od28 an28 od29 an29 od30 an30 od31 an31 od32 an32 od33 an33 : Option Addr} {sl1 sl2 sl3 sl4 sl5 sl6 sl7 sl8 sl9 sl10 sl11 sl12 sl13 sl14 sl15 sl16 sl17 sl18 sl19 sl20 sl21 sl22 sl23 sl24 sl25 sl26 sl27 sl28 sl29 sl30 sl31 sl32 sl33 : Array (Option Value)} {oc1 kV1 dc1 pm1 ct1 oc2 kV2 dc2 pm2 ct2 oc3 kV3 dc3 pm3 ct3 oc4 kV4 dc4 pm4 ct4 oc5 kV5 dc5 pm5 ct5 oc6 kV6 dc6 pm6 ct6 oc7 kV7 dc7 pm7 ct7 oc8 kV8 dc8 pm8 ct8 oc9 kV9 dc9 pm9 ct9 oc10 kV10 dc10 pm10 ct10 oc11 kV11 dc11 pm11 ct11 oc12 kV12 dc12 pm12 ct12 oc13 kV13 dc13 pm13 ct13 oc14 kV14 dc14 pm14 ct14 oc15 kV15 dc15 pm15 ct15 oc16 kV16 dc16 pm16 ct16 oc17 kV17 dc17 pm17 ct17 oc18 kV18 dc18 pm18 ct18 oc19 kV19 dc19 pm19 ct19 oc20 kV20 dc20 pm20 ct20 oc21 kV21 dc21 pm21 ct21 oc22 kV22 dc22 pm22 ct22 oc23 kV23 dc23 pm23 ct23 oc24 kV24 dc24 pm24 ct24 oc25 kV25 dc25 pm25 ct25 oc26 kV26 dc26 pm26 ct26 oc27 kV27 dc27 pm27 ct27 oc28 kV28 dc28 pm28 ct28 oc29 kV29 dc29 pm29 ct29 oc30 kV30 dc30 pm30 ct30 oc31 kV31 dc31 pm31 ct31 oc32 kV32 dc32 pm32 ct32 oc33 kV33 dc33 pm33 ct33 : Value} {ue4 : Value} {ud4 : Option Addr} {us4 : Array Value} {ul4 : Array (Option Value)} {ue6 : Value} {ud6 : Option Addr} {us6 : Array Value} {ul6 : Array (Option Value)} {ue11 : Value} {ud11 : Option Addr} {us11 : Array Value} {ul11 : Array (Option Value)} {ue12 : Value} {ud12 : Option Addr} {us12 : Array Value} {ul12 : Array (Option Value)} {ue13 : Value} {ud13 : Option Addr} {us13 : Array Value} {ul13 : Array (Option Value)} {ue14 : Value} {ud14 : Option Addr} {us14 : Array Value} {ul14 : Array (Option Value)} {ue15 : Value} {ud15 : Option Addr} {us15 : Array Value} {ul15 : Array (Option Value)} {ue16 : Value} {ud16 : Option Addr} {us16 : Array Value} {ul16 : Array (Option Value)} {ue17 : Value} {ud17 : Option Addr} {us17 : Array Value} {ul17 : Array (Option Value)} {ue18 : Value} {ud18 : Option Addr} {us18 : Array Value} {ul18 : Array (Option Value)} {ue19 : Value} {ud19 : Option Addr} {us19 : Array Value} {ul19 : Array (Option Value)}
    {tk_WORD_LENGTH : Tok}
    (X : K.In h) (G : h.Ns mainGlobals mg) (hfa : mg "law" = some (.ref fa)) (tT4 : TabOf K h "is_word") (tT6 : TabOf K h "names_of") (tT11 : TabOf K h "known") (tT12 : TabOf K h "tops") (tT13 : TabOf K h "branch_names") (tT14 : TabOf K h "without") (tT15 : TabOf K h "in_either") (tT16 : TabOf K h "joined") (tT17 : TabOf K h "common") (tT18 : TabOf K h "is_part") (tT19 : TabOf K h "is_road")
    (a1 : PySem.W.nsIn K mainGlobals "is_tuple_of" = some (some (.ref f1))) (l1 : K.lookup f1 = some ⟨oc1, od1, .func (PySem.W.fnOf "is_tuple_of" "is_tuple_of" (defArgs sIto) (defBody sIto) (defScope sIto) .none kV1 dc1 pm1 an1 (.ref c1) ct1), sl1⟩) (d1 : PySem.W.codeIn K (.ref c1) "is_tuple_of" = true) (k1 : PySem.W.keepIn K (.ref f1) = true)
    (a2 : PySem.W.nsIn K mainGlobals "is_number" = some (some (.ref f2))) (l2 : K.lookup f2 = some ⟨oc2, od2, .func (PySem.W.fnOf "is_number" "is_number" (defArgs sNum) (defBody sNum) (defScope sNum) .none kV2 dc2 pm2 an2 (.ref c2) ct2), sl2⟩) (d2 : PySem.W.codeIn K (.ref c2) "is_number" = true) (k2 : PySem.W.keepIn K (.ref f2) = true)
    (a3 : PySem.W.nsIn K mainGlobals "is_small" = some (some (.ref f3))) (l3 : K.lookup f3 = some ⟨oc3, od3, .func (PySem.W.fnOf "is_small" "is_small" (defArgs sSml) (defBody sSml) (defScope sSml) .none kV3 dc3 pm3 an3 (.ref c3) ct3), sl3⟩) (d3 : PySem.W.codeIn K (.ref c3) "is_small" = true) (k3 : PySem.W.keepIn K (.ref f3) = true)
    (a4 : PySem.W.nsIn K mainGlobals "is_word" = some (some (.ref f4))) (l4 : K.lookup f4 = some ⟨oc4, od4, .func (PySem.W.fnOf "is_word" "is_word" (defArgs sWrd) (defBody sWrd) (defScope sWrd) .none kV4 dc4 pm4 an4 (.ref c4) ct4), sl4⟩) (d4 : PySem.W.codeIn K (.ref c4) "is_word" = true) (k4 : PySem.W.keepIn K (.ref f4) = true)
    (a5 : PySem.W.nsIn K mainGlobals "is_name" = some (some (.ref f5))) (l5 : K.lookup f5 = some ⟨oc5, od5, .func (PySem.W.fnOf "is_name" "is_name" (defArgs sIsn) (defBody sIsn) (defScope sIsn) .none kV5 dc5 pm5 an5 (.ref c5) ct5), sl5⟩) (d5 : PySem.W.codeIn K (.ref c5) "is_name" = true) (k5 : PySem.W.keepIn K (.ref f5) = true)
    (a6 : PySem.W.nsIn K mainGlobals "names_of" = some (some (.ref f6))) (l6 : K.lookup f6 = some ⟨oc6, od6, .func (PySem.W.fnOf "names_of" "names_of" (defArgs sNof) (defBody sNof) (defScope sNof) .none kV6 dc6 pm6 an6 (.ref c6) ct6), sl6⟩) (d6 : PySem.W.codeIn K (.ref c6) "names_of" = true) (k6 : PySem.W.keepIn K (.ref f6) = true)
    (a7 : PySem.W.nsIn K mainGlobals "by_name" = some (some (.ref f7))) (l7 : K.lookup f7 = some ⟨oc7, od7, .func (PySem.W.fnOf "by_name" "by_name" (defArgs sBy) (defBody sBy) (defScope sBy) .none kV7 dc7 pm7 an7 (.ref c7) ct7), sl7⟩) (d7 : PySem.W.codeIn K (.ref c7) "by_name" = true) (k7 : PySem.W.keepIn K (.ref f7) = true)
    (a8 : PySem.W.nsIn K mainGlobals "elders_by" = some (some (.ref f8))) (l8 : K.lookup f8 = some ⟨oc8, od8, .func (PySem.W.fnOf "elders_by" "elders_by" (defArgs sEby) (defBody sEby) (defScope sEby) .none kV8 dc8 pm8 an8 (.ref c8) ct8), sl8⟩) (d8 : PySem.W.codeIn K (.ref c8) "elders_by" = true) (k8 : PySem.W.keepIn K (.ref f8) = true)
    (a9 : PySem.W.nsIn K mainGlobals "knowledge" = some (some (.ref f9))) (l9 : K.lookup f9 = some ⟨oc9, od9, .func (PySem.W.fnOf "knowledge" "knowledge" (defArgs sKno) (defBody sKno) (defScope sKno) .none kV9 dc9 pm9 an9 (.ref c9) ct9), sl9⟩) (d9 : PySem.W.codeIn K (.ref c9) "knowledge" = true) (k9 : PySem.W.keepIn K (.ref f9) = true)
    (a10 : PySem.W.nsIn K mainGlobals "change_of" = some (some (.ref f10))) (l10 : K.lookup f10 = some ⟨oc10, od10, .func (PySem.W.fnOf "change_of" "change_of" (defArgs sCho) (defBody sCho) (defScope sCho) .none kV10 dc10 pm10 an10 (.ref c10) ct10), sl10⟩) (d10 : PySem.W.codeIn K (.ref c10) "change_of" = true) (k10 : PySem.W.keepIn K (.ref f10) = true)
    (a11 : PySem.W.nsIn K mainGlobals "known" = some (some (.ref f11))) (l11 : K.lookup f11 = some ⟨oc11, od11, .func (PySem.W.fnOf "known" "known" (defArgs sKnw) (defBody sKnw) (defScope sKnw) .none kV11 dc11 pm11 an11 (.ref c11) ct11), sl11⟩) (d11 : PySem.W.codeIn K (.ref c11) "known" = true) (k11 : PySem.W.keepIn K (.ref f11) = true)
    (a12 : PySem.W.nsIn K mainGlobals "tops" = some (some (.ref f12))) (l12 : K.lookup f12 = some ⟨oc12, od12, .func (PySem.W.fnOf "tops" "tops" (defArgs sTop) (defBody sTop) (defScope sTop) .none kV12 dc12 pm12 an12 (.ref c12) ct12), sl12⟩) (d12 : PySem.W.codeIn K (.ref c12) "tops" = true) (k12 : PySem.W.keepIn K (.ref f12) = true)
    (a13 : PySem.W.nsIn K mainGlobals "branch_names" = some (some (.ref f13))) (l13 : K.lookup f13 = some ⟨oc13, od13, .func (PySem.W.fnOf "branch_names" "branch_names" (defArgs sBrn) (defBody sBrn) (defScope sBrn) .none kV13 dc13 pm13 an13 (.ref c13) ct13), sl13⟩) (d13 : PySem.W.codeIn K (.ref c13) "branch_names" = true) (k13 : PySem.W.keepIn K (.ref f13) = true)
    (a14 : PySem.W.nsIn K mainGlobals "without" = some (some (.ref f14))) (l14 : K.lookup f14 = some ⟨oc14, od14, .func (PySem.W.fnOf "without" "without" (defArgs sWo) (defBody sWo) (defScope sWo) .none kV14 dc14 pm14 an14 (.ref c14) ct14), sl14⟩) (d14 : PySem.W.codeIn K (.ref c14) "without" = true) (k14 : PySem.W.keepIn K (.ref f14) = true)
    (a15 : PySem.W.nsIn K mainGlobals "in_either" = some (some (.ref f15))) (l15 : K.lookup f15 = some ⟨oc15, od15, .func (PySem.W.fnOf "in_either" "in_either" (defArgs sEin) (defBody sEin) (defScope sEin) .none kV15 dc15 pm15 an15 (.ref c15) ct15), sl15⟩) (d15 : PySem.W.codeIn K (.ref c15) "in_either" = true) (k15 : PySem.W.keepIn K (.ref f15) = true)
    (a16 : PySem.W.nsIn K mainGlobals "joined" = some (some (.ref f16))) (l16 : K.lookup f16 = some ⟨oc16, od16, .func (PySem.W.fnOf "joined" "joined" (defArgs sJoi) (defBody sJoi) (defScope sJoi) .none kV16 dc16 pm16 an16 (.ref c16) ct16), sl16⟩) (d16 : PySem.W.codeIn K (.ref c16) "joined" = true) (k16 : PySem.W.keepIn K (.ref f16) = true)
    (a17 : PySem.W.nsIn K mainGlobals "common" = some (some (.ref f17))) (l17 : K.lookup f17 = some ⟨oc17, od17, .func (PySem.W.fnOf "common" "common" (defArgs sCom) (defBody sCom) (defScope sCom) .none kV17 dc17 pm17 an17 (.ref c17) ct17), sl17⟩) (d17 : PySem.W.codeIn K (.ref c17) "common" = true) (k17 : PySem.W.keepIn K (.ref f17) = true)
    (a18 : PySem.W.nsIn K mainGlobals "is_part" = some (some (.ref f18))) (l18 : K.lookup f18 = some ⟨oc18, od18, .func (PySem.W.fnOf "is_part" "is_part" (defArgs sPrt) (defBody sPrt) (defScope sPrt) .none kV18 dc18 pm18 an18 (.ref c18) ct18), sl18⟩) (d18 : PySem.W.codeIn K (.ref c18) "is_part" = true) (k18 : PySem.W.keepIn K (.ref f18) = true)
    (a19 : PySem.W.nsIn K mainGlobals "is_road" = some (some (.ref f19))) (l19 : K.lookup f19 = some ⟨oc19, od19, .func (PySem.W.fnOf "is_road" "is_road" (defArgs sIsr) (defBody sIsr) (defScope sIsr) .none kV19 dc19 pm19 an19 (.ref c19) ct19), sl19⟩) (d19 : PySem.W.codeIn K (.ref c19) "is_road" = true) (k19 : PySem.W.keepIn K (.ref f19) = true)
    (a20 : PySem.W.nsIn K mainGlobals "road_by_names" = some (some (.ref f20))) (l20 : K.lookup f20 = some ⟨oc20, od20, .func (PySem.W.fnOf "road_by_names" "road_by_names" (defArgs sRbn) (defBody sRbn) (defScope sRbn) .none kV20 dc20 pm20 an20 (.ref c20) ct20), sl20⟩) (d20 : PySem.W.codeIn K (.ref c20) "road_by_names" = true) (k20 : PySem.W.keepIn K (.ref f20) = true)
    (a21 : PySem.W.nsIn K mainGlobals "_law_feed" = some (some (.ref f21))) (l21 : K.lookup f21 = some ⟨oc21, od21, .func (PySem.W.fnOf "_law_feed" "_law_feed" (defArgs sFeed) (defBody sFeed) (defScope sFeed) .none kV21 dc21 pm21 an21 (.ref c21) ct21), sl21⟩) (d21 : PySem.W.codeIn K (.ref c21) "_law_feed" = true) (k21 : PySem.W.keepIn K (.ref f21) = true)
    (a22 : PySem.W.nsIn K mainGlobals "_law_draw" = some (some (.ref f22))) (l22 : K.lookup f22 = some ⟨oc22, od22, .func (PySem.W.fnOf "_law_draw" "_law_draw" (defArgs sDraw) (defBody sDraw) (defScope sDraw) .none kV22 dc22 pm22 an22 (.ref c22) ct22), sl22⟩) (d22 : PySem.W.codeIn K (.ref c22) "_law_draw" = true) (k22 : PySem.W.keepIn K (.ref f22) = true)
    (a23 : PySem.W.nsIn K mainGlobals "_law_words" = some (some (.ref f23))) (l23 : K.lookup f23 = some ⟨oc23, od23, .func (PySem.W.fnOf "_law_words" "_law_words" (defArgs sWords) (defBody sWords) (defScope sWords) .none kV23 dc23 pm23 an23 (.ref c23) ct23), sl23⟩) (d23 : PySem.W.codeIn K (.ref c23) "_law_words" = true) (k23 : PySem.W.keepIn K (.ref f23) = true)
    (a24 : PySem.W.nsIn K mainGlobals "_law_deed" = some (some (.ref f24))) (l24 : K.lookup f24 = some ⟨oc24, od24, .func (PySem.W.fnOf "_law_deed" "_law_deed" (defArgs sDeed) (defBody sDeed) (defScope sDeed) .none kV24 dc24 pm24 an24 (.ref c24) ct24), sl24⟩) (d24 : PySem.W.codeIn K (.ref c24) "_law_deed" = true) (k24 : PySem.W.keepIn K (.ref f24) = true)
    (a25 : PySem.W.nsIn K mainGlobals "_law_step" = some (some (.ref f25))) (l25 : K.lookup f25 = some ⟨oc25, od25, .func (PySem.W.fnOf "_law_step" "_law_step" (defArgs sStep) (defBody sStep) (defScope sStep) .none kV25 dc25 pm25 an25 (.ref c25) ct25), sl25⟩) (d25 : PySem.W.codeIn K (.ref c25) "_law_step" = true) (k25 : PySem.W.keepIn K (.ref f25) = true)
    (a26 : PySem.W.nsIn K mainGlobals "_law_world" = some (some (.ref f26))) (l26 : K.lookup f26 = some ⟨oc26, od26, .func (PySem.W.fnOf "_law_world" "_law_world" (defArgs sWorld) (defBody sWorld) (defScope sWorld) .none kV26 dc26 pm26 an26 (.ref c26) ct26), sl26⟩) (d26 : PySem.W.codeIn K (.ref c26) "_law_world" = true) (k26 : PySem.W.keepIn K (.ref f26) = true)
    (a27 : PySem.W.nsIn K mainGlobals "_law_ledger" = some (some (.ref f27))) (l27 : K.lookup f27 = some ⟨oc27, od27, .func (PySem.W.fnOf "_law_ledger" "_law_ledger" (defArgs sLedger) (defBody sLedger) (defScope sLedger) .none kV27 dc27 pm27 an27 (.ref c27) ct27), sl27⟩) (d27 : PySem.W.codeIn K (.ref c27) "_law_ledger" = true) (k27 : PySem.W.keepIn K (.ref f27) = true)
    (a28 : PySem.W.nsIn K mainGlobals "_law_road" = some (some (.ref f28))) (l28 : K.lookup f28 = some ⟨oc28, od28, .func (PySem.W.fnOf "_law_road" "_law_road" (defArgs sRoad) (defBody sRoad) (defScope sRoad) .none kV28 dc28 pm28 an28 (.ref c28) ct28), sl28⟩) (d28 : PySem.W.codeIn K (.ref c28) "_law_road" = true) (k28 : PySem.W.keepIn K (.ref f28) = true)
    (a29 : PySem.W.nsIn K mainGlobals "_law_laid" = some (some (.ref f29))) (l29 : K.lookup f29 = some ⟨oc29, od29, .func (PySem.W.fnOf "_law_laid" "_law_laid" (defArgs sLaid) (defBody sLaid) (defScope sLaid) .none kV29 dc29 pm29 an29 (.ref c29) ct29), sl29⟩) (d29 : PySem.W.codeIn K (.ref c29) "_law_laid" = true) (k29 : PySem.W.keepIn K (.ref f29) = true)
    (a30 : PySem.W.nsIn K mainGlobals "_law_stage_right" = some (some (.ref f30))) (l30 : K.lookup f30 = some ⟨oc30, od30, .func (PySem.W.fnOf "_law_stage_right" "_law_stage_right" (defArgs sSrt) (defBody sSrt) (defScope sSrt) .none kV30 dc30 pm30 an30 (.ref c30) ct30), sl30⟩) (d30 : PySem.W.codeIn K (.ref c30) "_law_stage_right" = true) (k30 : PySem.W.keepIn K (.ref f30) = true)
    (a31 : PySem.W.nsIn K mainGlobals "_law_by_road" = some (some (.ref f31))) (l31 : K.lookup f31 = some ⟨oc31, od31, .func (PySem.W.fnOf "_law_by_road" "_law_by_road" (defArgs sByr) (defBody sByr) (defScope sByr) .none kV31 dc31 pm31 an31 (.ref c31) ct31), sl31⟩) (d31 : PySem.W.codeIn K (.ref c31) "_law_by_road" = true) (k31 : PySem.W.keepIn K (.ref f31) = true)
    (a32 : PySem.W.nsIn K mainGlobals "_law_in_lumps" = some (some (.ref f32))) (l32 : K.lookup f32 = some ⟨oc32, od32, .func (PySem.W.fnOf "_law_in_lumps" "_law_in_lumps" (defArgs sLum) (defBody sLum) (defScope sLum) .none kV32 dc32 pm32 an32 (.ref c32) ct32), sl32⟩) (d32 : PySem.W.codeIn K (.ref c32) "_law_in_lumps" = true) (k32 : PySem.W.keepIn K (.ref f32) = true)
    (a33 : PySem.W.nsIn K mainGlobals "law" = some (some (.ref f33))) (l33 : K.lookup f33 = some ⟨oc33, od33, .func (PySem.W.fnOf "law" "law" (defArgs sLaw) (defBody sLaw) (defScope sLaw) .none kV33 dc33 pm33 an33 (.ref c33) ct33), sl33⟩) (d33 : PySem.W.codeIn K (.ref c33) "law" = true) (k33 : PySem.W.keepIn K (.ref f33) = true)
    (z0 : PySem.W.nsIn K mainGlobals "all" = some none)
    (z1 : PySem.W.nsIn K mainGlobals "any" = some none)
    (z2 : PySem.W.nsIn K mainGlobals "bool" = some none)
    (z3 : PySem.W.nsIn K mainGlobals "enumerate" = some none)
    (z4 : PySem.W.nsIn K mainGlobals "int" = some none)
    (z5 : PySem.W.nsIn K mainGlobals "isinstance" = some none)
    (z6 : PySem.W.nsIn K mainGlobals "len" = some none)
    (z7 : PySem.W.nsIn K mainGlobals "list" = some none)
    (z8 : PySem.W.nsIn K mainGlobals "max" = some none)
    (z9 : PySem.W.nsIn K mainGlobals "min" = some none)
    (z10 : PySem.W.nsIn K mainGlobals "range" = some none)
    (z11 : PySem.W.nsIn K mainGlobals "repr" = some none)
    (z12 : PySem.W.nsIn K mainGlobals "sorted" = some none)
    (z13 : PySem.W.nsIn K mainGlobals "str" = some none)
    (z14 : PySem.W.nsIn K mainGlobals "tuple" = some none)
    (w_WORD_LENGTH : PySem.W.nsIn K mainGlobals "WORD_LENGTH" = some (some (.int 8 tk_WORD_LENGTH)))
    (u4 : K.lookup c4 = some ⟨ue4, ud4, .fields us4, ul4⟩) (t4 : us4[11]? = some (.ref P4)) (n4 : K.lookup P4 = none)
    (u6 : K.lookup c6 = some ⟨ue6, ud6, .fields us6, ul6⟩) (t6 : us6[11]? = some (.ref P6)) (n6 : K.lookup P6 = none)
    (u11 : K.lookup c11 = some ⟨ue11, ud11, .fields us11, ul11⟩) (t11 : us11[11]? = some (.ref P11)) (n11 : K.lookup P11 = none)
    (u12 : K.lookup c12 = some ⟨ue12, ud12, .fields us12, ul12⟩) (t12 : us12[11]? = some (.ref P12)) (n12 : K.lookup P12 = none)
    (u13 : K.lookup c13 = some ⟨ue13, ud13, .fields us13, ul13⟩) (t13 : us13[11]? = some (.ref P13)) (n13 : K.lookup P13 = none)
    (u14 : K.lookup c14 = some ⟨ue14, ud14, .fields us14, ul14⟩) (t14 : us14[11]? = some (.ref P14)) (n14 : K.lookup P14 = none)
    (u15 : K.lookup c15 = some ⟨ue15, ud15, .fields us15, ul15⟩) (t15 : us15[11]? = some (.ref P15)) (n15 : K.lookup P15 = none)
    (u16 : K.lookup c16 = some ⟨ue16, ud16, .fields us16, ul16⟩) (t16 : us16[11]? = some (.ref P16)) (n16 : K.lookup P16 = none)
    (u17 : K.lookup c17 = some ⟨ue17, ud17, .fields us17, ul17⟩) (t17 : us17[11]? = some (.ref P17)) (n17 : K.lookup P17 = none)
    (u18 : K.lookup c18 = some ⟨ue18, ud18, .fields us18, ul18⟩) (t18 : us18[11]? = some (.ref P18)) (n18 : K.lookup P18 = none)
    (u19 : K.lookup c19 = some ⟨ue19, ud19, .fields us19, ul19⟩) (t19 : us19[11]? = some (.ref P19)) (n19 : K.lookup P19 = none) :
    ∃ (fd : FuncData) (cs : List (Addr × Addr)) (sp : Sp), (∀ p ∈ cs, h.get? p.2 = some tb0 ∧ K.lookup p.2 = none ∧ PySem.W.CodeHd h p.1 p.2) ∧
      (∀ (s : Shared) (u : Value), BindsTo s fd ⟨[u], []⟩ [("_law_script", u)]) ∧
      (∀ (H : Hp) (a : Addr) (ns : List Int), ns.length ≤ 63 → (∀ z ∈ ns, Builtin.Int.intBits z ≤ 1048576) → (∀ p ∈ cs, H p.2 = some (.tbl #[])) → SqL K H a (ns.map V.int) → sp [.ref a] H (fun v _ => v = .bl true) fun _ _ _ => False) ∧
      ∀ base : Heap, K.In base → base.Ns mainGlobals mg → (∀ p ∈ cs, GxR.TabB base mg p.1 p.2) → FnG l.prog w K mg base 17 fa fd ["_law_script"] sp := by
  have e := hfa.symm.trans (PySem.W.mg_of X G a33)
  cases e
  have DIto := Def.mk' (st := sIto) l1 d1 k1
  have bdIto := DIto.binds (ps := ["many", "thing"]) fun _ _ _ _ _ us hl => match us, hl with | [_, _], _ => rfl
  have glIto := PySem.W.mg_of X G a1
  have DNum := Def.mk' (st := sNum) l2 d2 k2
  have bdNum := DNum.binds (ps := ["thing"]) fun _ _ _ _ _ us hl => match us, hl with | [_], _ => rfl
  have glNum := PySem.W.mg_of X G a2
  have DSml := Def.mk' (st := sSml) l3 d3 k3
  have bdSml := DSml.binds (ps := ["sign"]) fun _ _ _ _ _ us hl => match us, hl with | [_], _ => rfl
  have glSml := PySem.W.mg_of X G a3
  have DWrd := Def.mk' (st := sWrd) l4 d4 k4
  have bdWrd := DWrd.binds (ps := ["thing"]) fun _ _ _ _ _ us hl => match us, hl with | [_], _ => rfl
  have glWrd := PySem.W.mg_of X G a4
  have DIsn := Def.mk' (st := sIsn) l5 d5 k5
  have bdIsn := DIsn.binds (ps := ["thing"]) fun _ _ _ _ _ us hl => match us, hl with | [_], _ => rfl
  have glIsn := PySem.W.mg_of X G a5
  have DNof := Def.mk' (st := sNof) l6 d6 k6
  have bdNof := DNof.binds (ps := ["ledger"]) fun _ _ _ _ _ us hl => match us, hl with | [_], _ => rfl
  have glNof := PySem.W.mg_of X G a6
  have DBy := Def.mk' (st := sBy) l7 d7 k7
  have bdBy := DBy.binds (ps := ["ledger"]) fun _ _ _ _ _ us hl => match us, hl with | [_], _ => rfl
  have glBy := PySem.W.mg_of X G a7
  have DEby := Def.mk' (st := sEby) l8 d8 k8
  have bdEby := DEby.binds (ps := ["base", "found"]) fun _ _ _ _ _ us hl => match us, hl with | [_, _], _ => rfl
  have glEby := PySem.W.mg_of X G a8
  have DKno := Def.mk' (st := sKno) l9 d9 k9
  have bdKno := DKno.binds (ps := ["ledger"]) fun _ _ _ _ _ us hl => match us, hl with | [_], _ => rfl
  have glKno := PySem.W.mg_of X G a9
  have DCho := Def.mk' (st := sCho) l10 d10 k10
  have bdCho := DCho.binds (ps := ["ledger", "name"]) fun _ _ _ _ _ us hl => match us, hl with | [_, _], _ => rfl
  have glCho := PySem.W.mg_of X G a10
  have DKnw := Def.mk' (st := sKnw) l11 d11 k11
  have bdKnw := DKnw.binds (ps := ["ledger", "name"]) fun _ _ _ _ _ us hl => match us, hl with | [_, _], _ => rfl
  have glKnw := PySem.W.mg_of X G a11
  have DTop := Def.mk' (st := sTop) l12 d12 k12
  have bdTop := DTop.binds (ps := ["ledger"]) fun _ _ _ _ _ us hl => match us, hl with | [_], _ => rfl
  have glTop := PySem.W.mg_of X G a12
  have DBrn := Def.mk' (st := sBrn) l13 d13 k13
  have bdBrn := DBrn.binds (ps := ["ledger", "branch"]) fun _ _ _ _ _ us hl => match us, hl with | [_, _], _ => rfl
  have glBrn := PySem.W.mg_of X G a13
  have DWo := Def.mk' (st := sWo) l14 d14 k14
  have bdWo := DWo.binds (ps := ["ledger", "names"]) fun _ _ _ _ _ us hl => match us, hl with | [_, _], _ => rfl
  have glWo := PySem.W.mg_of X G a14
  have DEin := Def.mk' (st := sEin) l15 d15 k15
  have bdEin := DEin.binds (ps := ["one", "other"]) fun _ _ _ _ _ us hl => match us, hl with | [_, _], _ => rfl
  have glEin := PySem.W.mg_of X G a15
  have DJoi := Def.mk' (st := sJoi) l16 d16 k16
  have bdJoi := DJoi.binds (ps := ["one", "other"]) fun _ _ _ _ _ us hl => match us, hl with | [_, _], _ => rfl
  have glJoi := PySem.W.mg_of X G a16
  have DCom := Def.mk' (st := sCom) l17 d17 k17
  have bdCom := DCom.binds (ps := ["one", "other"]) fun _ _ _ _ _ us hl => match us, hl with | [_, _], _ => rfl
  have glCom := PySem.W.mg_of X G a17
  have DPrt := Def.mk' (st := sPrt) l18 d18 k18
  have bdPrt := DPrt.binds (ps := ["one", "other"]) fun _ _ _ _ _ us hl => match us, hl with | [_, _], _ => rfl
  have glPrt := PySem.W.mg_of X G a18
  have DIsr := Def.mk' (st := sIsr) l19 d19 k19
  have bdIsr := DIsr.binds (ps := ["ledger", "thing"]) fun _ _ _ _ _ us hl => match us, hl with | [_, _], _ => rfl
  have glIsr := PySem.W.mg_of X G a19
  have DRbn := Def.mk' (st := sRbn) l20 d20 k20
  have bdRbn := DRbn.binds (ps := ["ledger"]) fun _ _ _ _ _ us hl => match us, hl with | [_], _ => rfl
  have glRbn := PySem.W.mg_of X G a20
  have DFeed := Def.mk' (st := sFeed) l21 d21 k21
  have bdFeed := DFeed.binds (ps := ["_law_script"]) fun _ _ _ _ _ us hl => match us, hl with | [_], _ => rfl
  have glFeed := PySem.W.mg_of X G a21
  have DDraw := Def.mk' (st := sDraw) l22 d22 k22
  have bdDraw := DDraw.binds (ps := ["_law_feed_here", "_law_many"]) fun _ _ _ _ _ us hl => match us, hl with | [_, _], _ => rfl
  have glDraw := PySem.W.mg_of X G a22
  have DWords := Def.mk' (st := sWords) l23 d23 k23
  have bdWords := DWords.binds (ps := ["_law_feed_here", "_law_many"]) fun _ _ _ _ _ us hl => match us, hl with | [_, _], _ => rfl
  have glWords := PySem.W.mg_of X G a23
  have DDeed := Def.mk' (st := sDeed) l24 d24 k24
  have bdDeed := DDeed.binds (ps := ["_law_feed_here", "_law_world_here", "_law_base", "_law_floor"]) fun _ _ _ _ _ us hl => match us, hl with | [_, _, _, _], _ => rfl
  have glDeed := PySem.W.mg_of X G a24
  have DStep := Def.mk' (st := sStep) l25 d25 k25
  have bdStep := DStep.binds (ps := ["_law_feed_here", "_law_world_here", "_law_words_here"]) fun _ _ _ _ _ us hl => match us, hl with | [_, _, _], _ => rfl
  have glStep := PySem.W.mg_of X G a25
  have DWorld := Def.mk' (st := sWorld) l26 d26 k26
  have bdWorld := DWorld.binds (ps := ["_law_feed_here", "_law_words_here", "_law_many"]) fun _ _ _ _ _ us hl => match us, hl with | [_, _, _], _ => rfl
  have glWorld := PySem.W.mg_of X G a26
  have DLedger := Def.mk' (st := sLedger) l27 d27 k27
  have bdLedger := DLedger.binds (ps := ["_law_world_here", "_law_names"]) fun _ _ _ _ _ us hl => match us, hl with | [_, _], _ => rfl
  have glLedger := PySem.W.mg_of X G a27
  have DRoad := Def.mk' (st := sRoad) l28 d28 k28
  have bdRoad := DRoad.binds (ps := ["_law_feed_here", "_law_world_here", "_law_names"]) fun _ _ _ _ _ us hl => match us, hl with | [_, _, _], _ => rfl
  have glRoad := PySem.W.mg_of X G a28
  have DLaid := Def.mk' (st := sLaid) l29 d29 k29
  have bdLaid := DLaid.binds (ps := ["_law_ledger_here", "_law_name"]) fun _ _ _ _ _ us hl => match us, hl with | [_, _], _ => rfl
  have glLaid := PySem.W.mg_of X G a29
  have DSrt := Def.mk' (st := sSrt) l30 d30 k30
  have bdSrt := DSrt.binds (ps := ["_law_ledger_here", "_law_stage", "_law_names"]) fun _ _ _ _ _ us hl => match us, hl with | [_, _, _], _ => rfl
  have glSrt := PySem.W.mg_of X G a30
  have DByr := Def.mk' (st := sByr) l31 d31 k31
  have bdByr := DByr.binds (ps := ["_law_feed_here", "_law_ledger_here", "_law_road_here"]) fun _ _ _ _ _ us hl => match us, hl with | [_, _, _], _ => rfl
  have glByr := PySem.W.mg_of X G a31
  have DLum := Def.mk' (st := sLum) l32 d32 k32
  have bdLum := DLum.binds (ps := ["_law_feed_here", "_law_ledger_here", "_law_names"]) fun _ _ _ _ _ us hl => match us, hl with | [_, _, _], _ => rfl
  have glLum := PySem.W.mg_of X G a32
  have DLaw := Def.mk' (st := sLaw) l33 d33 k33
  have bdLaw := DLaw.binds (ps := ["_law_script"]) fun _ _ _ _ _ us hl => match us, hl with | [_], _ => rfl
  have glLaw := PySem.W.mg_of X G a33
  have m_all := PySem.W.mg_none_of X G z0
  have m_any := PySem.W.mg_none_of X G z1
  have m_bool := PySem.W.mg_none_of X G z2
  have m_enumerate := PySem.W.mg_none_of X G z3
  have m_int := PySem.W.mg_none_of X G z4
  have m_isinstance := PySem.W.mg_none_of X G z5
  have m_len := PySem.W.mg_none_of X G z6
  have m_list := PySem.W.mg_none_of X G z7
  have m_max := PySem.W.mg_none_of X G z8
  have m_min := PySem.W.mg_none_of X G z9
  have m_range := PySem.W.mg_none_of X G z10
  have m_repr := PySem.W.mg_none_of X G z11
  have m_sorted := PySem.W.mg_none_of X G z12
  have m_str := PySem.W.mg_none_of X G z13
  have m_tuple := PySem.W.mg_none_of X G z14
  have k_WORD_LENGTH := PySem.W.mg_of X G w_WORD_LENGTH
  obtain ⟨cw4, hw4⟩ := tT4 c4 P4 (Mw.tabIn_of a4 l4 rfl u4 t4)
  obtain ⟨cw6, hw6⟩ := tT6 c6 P6 (Mw.tabIn_of a6 l6 rfl u6 t6)
  obtain ⟨cw11, hw11⟩ := tT11 c11 P11 (Mw.tabIn_of a11 l11 rfl u11 t11)
  obtain ⟨cw12, hw12⟩ := tT12 c12 P12 (Mw.tabIn_of a12 l12 rfl u12 t12)
  obtain ⟨cw13, hw13⟩ := tT13 c13 P13 (Mw.tabIn_of a13 l13 rfl u13 t13)
  obtain ⟨cw14, hw14⟩ := tT14 c14 P14 (Mw.tabIn_of a14 l14 rfl u14 t14)
  obtain ⟨cw15, hw15⟩ := tT15 c15 P15 (Mw.tabIn_of a15 l15 rfl u15 t15)
  obtain ⟨cw16, hw16⟩ := tT16 c16 P16 (Mw.tabIn_of a16 l16 rfl u16 t16)
  obtain ⟨cw17, hw17⟩ := tT17 c17 P17 (Mw.tabIn_of a17 l17 rfl u17 t17)
  obtain ⟨cw18, hw18⟩ := tT18 c18 P18 (Mw.tabIn_of a18 l18 rfl u18 t18)
  obtain ⟨cw19, hw19⟩ := tT19 c19 P19 (Mw.tabIn_of a19 l19 rfl u19 t19)
  obtain ⟨Z, hZ⟩ : ∃ Z : Zx, Z = ⟨K, ⟨[P4, P6, P11, P12, P13, P14, P15, P16, P17, P18, P19], []⟩, fun _ _ _ _ _ => False⟩ := ⟨_, rfl⟩
  have eK : K = Z.K := by rw [hZ]
  have eT : Z.T = ⟨[P4, P6, P11, P12, P13, P14, P15, P16, P17, P18, P19], []⟩ := by rw [hZ]
  clear hZ
  subst eK
  haveI tI4 : TabIn Z P4 := ⟨by rw [eT]; simp⟩
  haveI tI6 : TabIn Z P6 := ⟨by rw [eT]; simp⟩
  haveI tI11 : TabIn Z P11 := ⟨by rw [eT]; simp⟩
  haveI tI12 : TabIn Z P12 := ⟨by rw [eT]; simp⟩
  haveI tI13 : TabIn Z P13 := ⟨by rw [eT]; simp⟩
  haveI tI14 : TabIn Z P14 := ⟨by rw [eT]; simp⟩
  haveI tI15 : TabIn Z P15 := ⟨by rw [eT]; simp⟩
  haveI tI16 : TabIn Z P16 := ⟨by rw [eT]; simp⟩
  haveI tI17 : TabIn Z P17 := ⟨by rw [eT]; simp⟩
  haveI tI18 : TabIn Z P18 := ⟨by rw [eT]; simp⟩
  haveI tI19 : TabIn Z P19 := ⟨by rw [eT]; simp⟩
  refine ⟨PySem.W.fnOf "law" "law" (defArgs sLaw) (defBody sLaw) (defScope sLaw) .none kV33 dc33 pm33 an33 (.ref c33) ct33, [(c4, P4), (c6, P6), (c11, P11), (c12, P12), (c13, P13), (c14, P14), (c15, P15), (c16, P16), (c17, P17), (c18, P18), (c19, P19)], spA Z 1 (aFn 11 (p15Law fLum fWo fCom fDraw fByr fIsr fRoad fLedger fWorld fWords fFeed)), fun p hp => ?_, fun s v => .of_eq rfl, fun H a ns h1 _ h2 h3 => ?_, fun base kb nb tb => ?_⟩
  · simp only [List.mem_cons, List.not_mem_nil, or_false] at hp
    rcases hp with rfl | rfl | rfl | rfl | rfl | rfl | rfl | rfl | rfl | rfl | rfl
    · exact ⟨hw4, n4, cw4⟩
    · exact ⟨hw6, n6, cw6⟩
    · exact ⟨hw11, n11, cw11⟩
    · exact ⟨hw12, n12, cw12⟩
    · exact ⟨hw13, n13, cw13⟩
    · exact ⟨hw14, n14, cw14⟩
    · exact ⟨hw15, n15, cw15⟩
    · exact ⟨hw16, n16, cw16⟩
    · exact ⟨hw17, n17, cw17⟩
    · exact ⟨hw18, n18, cw18⟩
    · exact ⟨hw19, n19, cw19⟩
  · refine ⟨rfl, [], [], [.scr ns], fun w _ => w = .d (.bool true), fun _ _ => False, ⟨rfl, .nil, fun i a c hh => (by simp at hh), fun p hp => ?_, fun p hp => (by rw [eT] at hp; cases hp)⟩, .cons ⟨a, rfl, h3, fun z => (by cases z)⟩ .nil, law15_ok ns h1, fun ρ σ H v w g r vw q => ?_, fun _ _ _ _ _ _ _ _ _ q => q.elim⟩
    · rw [eT] at hp
      simp only [List.mem_cons, List.not_mem_nil, or_false] at hp
      rcases hp with e0 | e0 | e0 | e0 | e0 | e0 | e0 | e0 | e0 | e0 | e0
      · rw [e0]; exact ⟨#[], h2 (c4, P4) (by simp), trivial⟩
      · rw [e0]; exact ⟨#[], h2 (c6, P6) (by simp), trivial⟩
      · rw [e0]; exact ⟨#[], h2 (c11, P11) (by simp), trivial⟩
      · rw [e0]; exact ⟨#[], h2 (c12, P12) (by simp), trivial⟩
      · rw [e0]; exact ⟨#[], h2 (c13, P13) (by simp), trivial⟩
      · rw [e0]; exact ⟨#[], h2 (c14, P14) (by simp), trivial⟩
      · rw [e0]; exact ⟨#[], h2 (c15, P15) (by simp), trivial⟩
      · rw [e0]; exact ⟨#[], h2 (c16, P16) (by simp), trivial⟩
      · rw [e0]; exact ⟨#[], h2 (c17, P17) (by simp), trivial⟩
      · rw [e0]; exact ⟨#[], h2 (c18, P18) (by simp), trivial⟩
      · rw [e0]; exact ⟨#[], h2 (c19, P19) (by simp), trivial⟩
    · subst q; exact vw.bool
  · have hIto : CalF l.prog w Z mg base "is_tuple_of" 2 ["many", "thing"] fIto := (ok_Ito (P := l.prog) (w := w) (Z := Z) (mg := mg) (base := base) DIto bdIto glIto m_isinstance m_len m_tuple).as ito_ok
    have hNum : CalF l.prog w Z mg base "is_number" 2 ["thing"] fNum := (ok_Num (P := l.prog) (w := w) (Z := Z) (mg := mg) (base := base) DNum bdNum glNum m_bool m_int m_isinstance).as num_ok
    have hSml : CalF l.prog w Z mg base "is_small" 2 ["sign"] fSml := (ok_Sml (P := l.prog) (w := w) (Z := Z) (mg := mg) (base := base) DSml bdSml glSml).as sml_ok
    have hWrd : CalF l.prog w Z mg base "is_word" 5 ["thing"] fWd := (ok_Wrd (P := l.prog) (w := w) (Z := Z) (mg := mg) (base := base) DWrd bdWrd glWrd m_all m_isinstance m_len m_str k_WORD_LENGTH (tb (c4, P4) (by simp)) hSml).as wrd_ok
    have hIsn : CalF l.prog w Z mg base "is_name" 7 ["thing"] fIsn := (ok_Isn (P := l.prog) (w := w) (Z := Z) (mg := mg) (base := base) DIsn bdIsn glIsn hWrd hNum hIto).as isn_ok
    have hNof : CalF l.prog w Z mg base "names_of" 2 ["ledger"] fNof := (ok_Nof (P := l.prog) (w := w) (Z := Z) (mg := mg) (base := base) DNof bdNof glNof m_tuple (tb (c6, P6) (by simp))).as nof_ok
    have hBy : CalF l.prog w Z mg base "by_name" 2 ["ledger"] fBy := (ok_By (P := l.prog) (w := w) (Z := Z) (mg := mg) (base := base) DBy bdBy glBy).as by_ok
    have hEby : CalF l.prog w Z mg base "elders_by" 2 ["base", "found"] fEby := (ok_Eby (P := l.prog) (w := w) (Z := Z) (mg := mg) (base := base) DEby bdEby glEby).shed eby_ok
    have hKno : CalF l.prog w Z mg base "knowledge" 4 ["ledger"] fKno := (ok_Kno (P := l.prog) (w := w) (Z := Z) (mg := mg) (base := base) DKno bdKno glKno hEby).shed kno_ok
    have hCho : CalF l.prog w Z mg base "change_of" 9 ["ledger", "name"] fCho := (ok_Cho (P := l.prog) (w := w) (Z := Z) (mg := mg) (base := base) DCho bdCho glCho hIsn).as cho_ok
    have hKnw : CalF l.prog w Z mg base "known" 11 ["ledger", "name"] fKnw := (ok_Knw (P := l.prog) (w := w) (Z := Z) (mg := mg) (base := base) DKnw bdKnw glKnw m_tuple (tb (c11, P11) (by simp)) hKno hCho).as knw_ok
    have hTop : CalF l.prog w Z mg base "tops" 4 ["ledger"] fTops := (ok_Top (P := l.prog) (w := w) (Z := Z) (mg := mg) (base := base) DTop bdTop glTop m_tuple (tb (c12, P12) (by simp)) hNof).shed tops_ok
    have hBrn : CalF l.prog w Z mg base "branch_names" 4 ["ledger", "branch"] fBrn := (ok_Brn (P := l.prog) (w := w) (Z := Z) (mg := mg) (base := base) DBrn bdBrn glBrn m_tuple (tb (c13, P13) (by simp)) hNof).as brn_ok
    have hWo : CalF l.prog w Z mg base "without" 2 ["ledger", "names"] fWo := (ok_Wo (P := l.prog) (w := w) (Z := Z) (mg := mg) (base := base) DWo bdWo glWo m_any m_tuple (tb (c14, P14) (by simp))).shed wo_ok
    have hEin : CalF l.prog w Z mg base "in_either" 4 ["one", "other"] fEin := (ok_Ein (P := l.prog) (w := w) (Z := Z) (mg := mg) (base := base) DEin bdEin glEin m_sorted m_tuple (tb (c15, P15) (by simp)) hBy).shed ein_ok
    have hJoi : CalF l.prog w Z mg base "joined" 6 ["one", "other"] fJoi := (ok_Joi (P := l.prog) (w := w) (Z := Z) (mg := mg) (base := base) DJoi bdJoi glJoi m_all m_enumerate (tb (c16, P16) (by simp)) hBrn hKno hBy hEin).shed joi_ok
    have hCom : CalF l.prog w Z mg base "common" 4 ["one", "other"] fCom := (ok_Com (P := l.prog) (w := w) (Z := Z) (mg := mg) (base := base) DCom bdCom glCom m_all m_tuple (tb (c17, P17) (by simp)) hBy).shed com_ok
    have hPrt : CalF l.prog w Z mg base "is_part" 4 ["one", "other"] fPrt := (ok_Prt (P := l.prog) (w := w) (Z := Z) (mg := mg) (base := base) DPrt bdPrt glPrt m_all (tb (c18, P18) (by simp)) hBy).shed prt_ok
    have hIsr : CalF l.prog w Z mg base "is_road" 9 ["ledger", "thing"] fIsr := (ok_Isr (P := l.prog) (w := w) (Z := Z) (mg := mg) (base := base) DIsr bdIsr glIsr m_all m_isinstance m_len m_tuple (tb (c19, P19) (by simp)) hIsn hBy).shed isr_ok
    have hRbn : CalF l.prog w Z mg base "road_by_names" 4 ["ledger"] fRbn := (ok_Rbn (P := l.prog) (w := w) (Z := Z) (mg := mg) (base := base) DRbn bdRbn glRbn hNof).as rbn_ok
    have hFeed : CalF l.prog w Z mg base "_law_feed" 2 ["_law_script"] fFeed := (ok_Feed (P := l.prog) (w := w) (Z := Z) (mg := mg) (base := base) DFeed bdFeed glFeed m_list).as feed_ok
    have hDraw : CalF l.prog w Z mg base "_law_draw" 2 ["_law_feed_here", "_law_many"] fDraw := (ok_Draw (P := l.prog) (w := w) (Z := Z) (mg := mg) (base := base) DDraw bdDraw glDraw m_len).as draw_ok
    have hWords : CalF l.prog w Z mg base "_law_words" 4 ["_law_feed_here", "_law_many"] fWords := (ok_Words (P := l.prog) (w := w) (Z := Z) (mg := mg) (base := base) DWords bdWords glWords m_len m_range hDraw).shed words_ok
    have hDeed : CalF l.prog w Z mg base "_law_deed" 4 ["_law_feed_here", "_law_world_here", "_law_base", "_law_floor"] fDeed := (ok_Deed (P := l.prog) (w := w) (Z := Z) (mg := mg) (base := base) DDeed bdDeed glDeed m_len m_range hDraw).shed deed_ok
    have hStep : CalF l.prog w Z mg base "_law_step" 6 ["_law_feed_here", "_law_world_here", "_law_words_here"] fStep := (ok_Step (P := l.prog) (w := w) (Z := Z) (mg := mg) (base := base) DStep bdStep glStep m_len m_max m_sorted m_tuple hDraw hDeed).shed step_ok
    have hWorld : CalF l.prog w Z mg base "_law_world" 8 ["_law_feed_here", "_law_words_here", "_law_many"] fWorld := (ok_World (P := l.prog) (w := w) (Z := Z) (mg := mg) (base := base) DWorld bdWorld glWorld m_range hStep).as world_ok
    have hLedger : CalF l.prog w Z mg base "_law_ledger" 2 ["_law_world_here", "_law_names"] fLedger := (ok_Ledger (P := l.prog) (w := w) (Z := Z) (mg := mg) (base := base) DLedger bdLedger glLedger m_sorted m_tuple).as ledger_ok
    have hRoad : CalF l.prog w Z mg base "_law_road" 4 ["_law_feed_here", "_law_world_here", "_law_names"] fRoad := (ok_Road (P := l.prog) (w := w) (Z := Z) (mg := mg) (base := base) DRoad bdRoad glRoad m_len m_list m_tuple hDraw).shed road_ok
    have hLaid : CalF l.prog w Z mg base "_law_laid" 13 ["_law_ledger_here", "_law_name"] fLaid := (ok_Laid (P := l.prog) (w := w) (Z := Z) (mg := mg) (base := base) DLaid bdLaid glLaid m_list m_tuple hKnw hCho).as laid_ok
    have hSrt : CalG l.prog w Z mg base "_law_stage_right" 13 ["_law_ledger_here", "_law_stage", "_law_names"] fSrt := (ok_Srt (P := l.prog) (w := w) (Z := Z) (mg := mg) (base := base) DSrt bdSrt glSrt m_list m_repr m_sorted hTop hKnw hRbn hPrt).as srt_ok
    have hByr : CalG l.prog w Z mg base "_law_by_road" 15 ["_law_feed_here", "_law_ledger_here", "_law_road_here"] fByr := (ok_Byr (P := l.prog) (w := w) (Z := Z) (mg := mg) (base := base) DByr bdByr glByr hSrt hDraw hJoi hLaid).shed byr_ok
    have hLum : CalF l.prog w Z mg base "_law_in_lumps" 15 ["_law_feed_here", "_law_ledger_here", "_law_names"] fLum := (ok_Lum (P := l.prog) (w := w) (Z := Z) (mg := mg) (base := base) DLum bdLum glLum m_int m_len m_range hTop hJoi hLaid hDraw).as lum_ok
    exact ok_Law (P := l.prog) (w := w) (Z := Z) (mg := mg) (base := base) DLaw bdLaw glLaw m_len m_min m_range m_repr m_sorted hLum hWo hCom hDraw hByr hIsr hRoad hLedger hWorld hWords hFeed
end K15
open PySem PySem.W PyProof.Rows
set_option maxRecDepth 100000 in
set_option maxHeartbeats 0 in
theorem PySem.Challenge.cw_marginwords_k15_whole_joined_by_any_road_holds : PySem.Challenge.rw_marginwords_k15_whole_joined_by_any_road.Holds := by
  w_on; o_law; k_head; (case hw => w_witness2)
  k_fill
  refine Mw.law_end (l := PySem.Challenge.rw_marginwords_k15_whole_joined_by_any_road) (n := 63) (k := 17) (x := "_law_script") rfl (by decide) rfl ⟨rfl, by decide, by decide⟩ (fun w h Y => PySem.W.kIn_of Y) ?F
  case F =>
    intro w mg fa h KX G hmg htab
    refine' K15.all_mk KX G hmg (htab "is_word" ?y4) (htab "names_of" ?y6) (htab "known" ?y11) (htab "tops" ?y12) (htab "branch_names" ?y13) (htab "without" ?y14) (htab "in_either" ?y15) (htab "joined" ?y16) (htab "common" ?y17) (htab "is_part" ?y18) (htab "is_road" ?y19) ?a1 ?l1 ?d1 ?k1 ?a2 ?l2 ?d2 ?k2 ?a3 ?l3 ?d3 ?k3 ?a4 ?l4 ?d4 ?k4 ?a5 ?l5 ?d5 ?k5 ?a6 ?l6 ?d6 ?k6 ?a7 ?l7 ?d7 ?k7 ?a8 ?l8 ?d8 ?k8 ?a9 ?l9 ?d9 ?k9 ?a10 ?l10 ?d10 ?k10 ?a11 ?l11 ?d11 ?k11 ?a12 ?l12 ?d12 ?k12 ?a13 ?l13 ?d13 ?k13 ?a14 ?l14 ?d14 ?k14 ?a15 ?l15 ?d15 ?k15 ?a16 ?l16 ?d16 ?k16 ?a17 ?l17 ?d17 ?k17 ?a18 ?l18 ?d18 ?k18 ?a19 ?l19 ?d19 ?k19 ?a20 ?l20 ?d20 ?k20 ?a21 ?l21 ?d21 ?k21 ?a22 ?l22 ?d22 ?k22 ?a23 ?l23 ?d23 ?k23 ?a24 ?l24 ?d24 ?k24 ?a25 ?l25 ?d25 ?k25 ?a26 ?l26 ?d26 ?k26 ?a27 ?l27 ?d27 ?k27 ?a28 ?l28 ?d28 ?k28 ?a29 ?l29 ?d29 ?k29 ?a30 ?l30 ?d30 ?k30 ?a31 ?l31 ?d31 ?k31 ?a32 ?l32 ?d32 ?k32 ?a33 ?l33 ?d33 ?k33 ?z0 ?z1 ?z2 ?z3 ?z4 ?z5 ?z6 ?z7 ?z8 ?z9 ?z10 ?z11 ?z12 ?z13 ?z14 ?w_WORD_LENGTH ?u4 ?t4 ?n4 ?u6 ?t6 ?n6 ?u11 ?t11 ?n11 ?u12 ?t12 ?n12 ?u13 ?t13 ?n13 ?u14 ?t14 ?n14 ?u15 ?t15 ?n15 ?u16 ?t16 ?n16 ?u17 ?t17 ?n17 ?u18 ?t18 ?n18 ?u19 ?t19 ?n19
    (case y4 => kernel_rfl); (case y6 => kernel_rfl); (case y11 => kernel_rfl); (case y12 => kernel_rfl); (case y13 => kernel_rfl); (case y14 => kernel_rfl); (case y15 => kernel_rfl); (case y16 => kernel_rfl); (case y17 => kernel_rfl); (case y18 => kernel_rfl); (case y19 => kernel_rfl)
    (case a1 => k_is); (case l1 => k_is); (case d1 => k_is); (case k1 => k_is); (case a2 => k_is); (case l2 => k_is)
    (case d2 => k_is); (case k2 => k_is); (case a3 => k_is); (case l3 => k_is); (case d3 => k_is); (case k3 => k_is)
    (case a4 => k_is); (case l4 => k_is); (case d4 => k_is); (case k4 => k_is); (case a5 => k_is); (case l5 => k_is)
    (case d5 => k_is); (case k5 => k_is); (case a6 => k_is); (case l6 => k_is); (case d6 => k_is); (case k6 => k_is)
    (case a7 => k_is); (case l7 => k_is); (case d7 => k_is); (case k7 => k_is); (case a8 => k_is); (case l8 => k_is)
    (case d8 => k_is); (case k8 => k_is); (case a9 => k_is); (case l9 => k_is); (case d9 => k_is); (case k9 => k_is)
    (case a10 => k_is); (case l10 => k_is); (case d10 => k_is); (case k10 => k_is); (case a11 => k_is); (case l11 => k_is)
    (case d11 => k_is); (case k11 => k_is); (case a12 => k_is); (case l12 => k_is); (case d12 => k_is); (case k12 => k_is)
    (case a13 => k_is); (case l13 => k_is); (case d13 => k_is); (case k13 => k_is); (case a14 => k_is); (case l14 => k_is)
    (case d14 => k_is); (case k14 => k_is); (case a15 => k_is); (case l15 => k_is); (case d15 => k_is); (case k15 => k_is)
    (case a16 => k_is); (case l16 => k_is); (case d16 => k_is); (case k16 => k_is); (case a17 => k_is); (case l17 => k_is)
    (case d17 => k_is); (case k17 => k_is); (case a18 => k_is); (case l18 => k_is); (case d18 => k_is); (case k18 => k_is)
    (case a19 => k_is); (case l19 => k_is); (case d19 => k_is); (case k19 => k_is); (case a20 => k_is); (case l20 => k_is)
    (case d20 => k_is); (case k20 => k_is); (case a21 => k_is); (case l21 => k_is); (case d21 => k_is); (case k21 => k_is)
    (case a22 => k_is); (case l22 => k_is); (case d22 => k_is); (case k22 => k_is); (case a23 => k_is); (case l23 => k_is)
    (case d23 => k_is); (case k23 => k_is); (case a24 => k_is); (case l24 => k_is); (case d24 => k_is); (case k24 => k_is)
    (case a25 => k_is); (case l25 => k_is); (case d25 => k_is); (case k25 => k_is); (case a26 => k_is); (case l26 => k_is)
    (case d26 => k_is); (case k26 => k_is); (case a27 => k_is); (case l27 => k_is); (case d27 => k_is); (case k27 => k_is)
    (case a28 => k_is); (case l28 => k_is); (case d28 => k_is); (case k28 => k_is); (case a29 => k_is); (case l29 => k_is)
    (case d29 => k_is); (case k29 => k_is); (case a30 => k_is); (case l30 => k_is); (case d30 => k_is); (case k30 => k_is)
    (case a31 => k_is); (case l31 => k_is); (case d31 => k_is); (case k31 => k_is); (case a32 => k_is); (case l32 => k_is)
    (case d32 => k_is); (case k32 => k_is); (case a33 => k_is); (case l33 => k_is); (case d33 => k_is); (case k33 => k_is)
    (case z0 => k_is); (case z1 => k_is); (case z2 => k_is); (case z3 => k_is); (case z4 => k_is); (case z5 => k_is)
    (case z6 => k_is); (case z7 => k_is); (case z8 => k_is); (case z9 => k_is); (case z10 => k_is); (case z11 => k_is)
    (case z12 => k_is); (case z13 => k_is); (case z14 => k_is); (case w_WORD_LENGTH => k_is); (case u4 => k_is); (case t4 => rfl)
    (case n4 => kernel_rfl); (case u6 => k_is); (case t6 => rfl); (case n6 => kernel_rfl); (case u11 => k_is); (case t11 => rfl)
    (case n11 => kernel_rfl); (case u12 => k_is); (case t12 => rfl); (case n12 => kernel_rfl); (case u13 => k_is); (case t13 => rfl)
    (case n13 => kernel_rfl); (case u14 => k_is); (case t14 => rfl); (case n14 => kernel_rfl); (case u15 => k_is); (case t15 => rfl)
    (case n15 => kernel_rfl); (case u16 => k_is); (case t16 => rfl); (case n16 => kernel_rfl); (case u17 => k_is); (case t17 => rfl)
    (case n17 => kernel_rfl); (case u18 => k_is); (case t18 => rfl); (case n18 => kernel_rfl); (case u19 => k_is); (case t19 => rfl)
    (case n19 => kernel_rfl)

