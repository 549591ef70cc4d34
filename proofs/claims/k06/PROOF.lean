import PyProof.Rows.All
import Wide.All
import OpenK.AllK
import Wide.FinOn
import HandS.ForMost
import HandS.AnyAll
import HandS.IsInst
import HandS.Deep
import HandS.TupAny
import HandS.Flow
import HandS.EndTab
import HandS.Defaults
import PyProof.ReprReads
import PyProof.ReprRoads
import PyProof.GenCompD
import HandS.GenList
import HandS.Conv
import HandS.Style
import PyProof.ReprLen
import PyProof.Rows.RegStrFacts
import HandS.DictTup
import HandS.SortKw
import HandS.Zip
import KE.SortData
import KE.KDictSum
import KE.DataCmp
import KE.DataMinMax
import KE.KRevSl
import PyProof.StrOps2
import HandS.Wide
import PySem.Challenge.RW_marginwords_k06_elder_ledgers
set_option Elab.async false
set_option linter.all false
set_option maxRecDepth 100000
set_option maxHeartbeats 2000000
namespace Mw
open PySem PySem.Spec PyProof.Rows L2
/-! ### a def of the top: its function object, its code object -/
structure Def (K : PySem.W.Frag) (x : Str) (st : Stmt) (f c : Addr) (fd : FuncData) : Prop where
  ex : ∃ (oc : Value) (od : Option Addr) (kV doc pm : Value) (an : Option Addr) (ct : Value) (osl : Array (Option Value)),
    fd = PySem.W.fnOf x x (defArgs st) (defBody st) (defScope st) .none kV doc pm an (.ref c) ct ∧
      K.lookup f = some ⟨oc, od, .func fd, osl⟩ ∧ PySem.W.codeIn K (.ref c) x = true
  kp : PySem.W.keepIn K (.ref f) = true
theorem Def.mk' {K : PySem.W.Frag} {x : Str} {st : Stmt} {f c : Addr} {oc : Value} {od an : Option Addr} {osl : Array (Option Value)} {kV doc pm ct : Value}
    (l : K.lookup f = some ⟨oc, od, .func (PySem.W.fnOf x x (defArgs st) (defBody st) (defScope st) .none kV doc pm an (.ref c) ct), osl⟩)
    (cd : PySem.W.codeIn K (.ref c) x = true) (kp : PySem.W.keepIn K (.ref f) = true) :
    Def K x st f c (PySem.W.fnOf x x (defArgs st) (defBody st) (defScope st) .none kV doc pm an (.ref c) ct) :=
  ⟨⟨oc, od, kV, doc, pm, an, ct, osl, rfl, l, cd⟩, kp⟩
section
variable {P : Program} {w : World} {K : PySem.W.Frag} {mg : Str → Option Value} {base : Heap} {x : Str} {st : Stmt} {f c : Addr} {fd : FuncData} {N ps : List Str} {k : Nat} {sp : Sp}
/-- the context in which a def's body runs -/
abbrev Bx (P : Program) (w : World) (K : PySem.W.Frag) (mg : Str → Option Value) (base : Heap) (N : List Str) (x : Str) (st : Stmt) (f c : Addr) (A : Around) (outer : List Env) (s : Shared) (H : Hp) (E : XK) : Cx :=
  (cxOf CX0 P w K mg base N x (defScope st) f (.ref c) A outer s H E).nox
theorem Def.ok (D : Def K x st f c fd) (S : FnScope N ps (defScope st)) (len : ∀ vs H Q E, sp vs H Q E → vs.length = ps.length)
    (body : ∀ (A : Around) (outer : List Env) (s : Shared) (H : Hp) (vs : List V) (Q : VK) (E : XK),
      Room k (A.deeper (envOfC x (defScope st) s.heap.objs.size f (.ref c))) → sp vs H Q E →
      ∃ t, PSs (Bx P w K mg base N x st f c A outer s H E) (defBody st) t ∧ t { nx := fun _ H' => Q .non H', rt := Q } (start N vs) H) :
    FnOk P w K mg base CX0 (k + 1) f fd ps sp := by
  obtain ⟨oc, od, kV, doc, pm, an, ct, osl, rfl, lk, hcd⟩ := D.ex
  refine fn_of lk hcd S len fun A outer s H vs Q E room hs => ?_
  obtain ⟨t, h1, h2⟩ := body A outer s H vs Q E room hs
  exact ⟨t, PSs.nox h1, h2⟩
theorem Def.binds (D : Def K x st f c fd)
    (h : ∀ (kV doc pm : Value) (an : Option Addr) (ct : Value) (us : List Value), us.length = ps.length →
      bindArgs (PySem.W.fnOf x x (defArgs st) (defBody st) (defScope st) .none kV doc pm an (.ref c) ct) ⟨us, []⟩ = pure (ps.zip us)) : Binds K fd ps [] := by
  obtain ⟨oc, od, kV, doc, pm, an, ct, osl, rfl, lk, hcd⟩ := D.ex
  exact Binds.all (h kV doc pm an ct)
/-! ### a promise where nothing is being shown (no repr under way) -/
structure FnG (P : Program) (w : World) (K : PySem.W.Frag) (mg : Str → Option Value) (base : Heap) (k : Nat) (f : Addr) (fd : FuncData) (ps : List Str) (sp : Sp) : Prop where
  len : ∀ vs H Q E, sp vs H Q E → vs.length = ps.length
  run : ∀ (A : Around) (outer : List Env) (s : Shared) (H : Hp) (args : Args) (us : List Value) (vs : List V) (Q : VK) (E : XK), Room k A → A.guards = some [] →
    Env0 P w K mg base A outer s H → BindsTo s fd args (ps.zip us) → Vals vs us → sp vs H Q E → codeAny (model P w) A (.call (.ref f) args) (CR CX0 outer P w H s Q E) s
theorem Def.okG (D : Def K x st f c fd) (S : FnScope N ps (defScope st)) (len : ∀ vs H Q E, sp vs H Q E → vs.length = ps.length)
    (body : ∀ (A : Around) (outer : List Env) (s : Shared) (H : Hp) (vs : List V) (Q : VK) (E : XK),
      Room k (A.deeper (envOfC x (defScope st) s.heap.objs.size f (.ref c))) → A.guards = some [] → sp vs H Q E →
      ∃ t, PSs (Bx P w K mg base N x st f c A outer s H E) (defBody st) t ∧ t { nx := fun _ H' => Q .non H', rt := Q } (start N vs) H) :
    FnG P w K mg base (k + 1) f fd ps sp := by
  obtain ⟨oc, od, kV, doc, pm, an, ct, osl, rfl, lk, hcd⟩ := D.ex
  refine ⟨len, fun A outer s H args us vs Q E hr hgu e0 hb r hs => ?_⟩
  have stay : ∀ b o, base.get? b = some o → s.heap.get? b = some o := fun b o e => (e0.bs b o e).1
  have KX : K.In s.heap := e0.mod.kin.keeps stay
  have lim : s.heap.NoLimit := e0.mod.nolimit.keeps stay
  refine codeAny_call_function hr.depth (KX _ _ lk) rfl S.co S.gen rfl (PySem.W.codeRec_of KX hcd) (hb _ _ _ _ ?_)
  refine wpAny_newFunctionEnv_cells S.kind (fun y hy => ?_) fun env he s1 ic => ?_
  · have hy1 : y.1 ∈ ps := (List.of_mem_zip (show (y.1, y.2) ∈ ps.zip us from hy)).1
    rcases S.par y.1 hy1 with q | q
    · exact Or.inl q
    · exact Or.inr ⟨q, PySem.W.cellsFrom_some _ _ _ (Or.inl q)⟩
  subst he
  refine ⟨lim.keeps ic.toInCall.keep, codeAny_func ?_⟩
  obtain ⟨t, ht, hq⟩ := body A outer s H vs Q E (hr.deeper _) hgu hs
  have I := inv_start (CX := CX0) (E := E) S hr.hd e0 (len _ _ _ _ hs) r ic
  refine wpAny_mono ((PSs.nox ht).run [] s1 (start N vs) H _ I hq) (fun fl s2 h2 => ?_) fun _ _ z => z
  cases fl with
  | ret u =>
    obtain ⟨v, _, H2, J, rv, q⟩ := h2
    exact ⟨v, H2, J.os, J.bare, J.base, J.hok, rv, q⟩
  | next =>
    obtain ⟨_, H2, J, q⟩ := h2
    exact ⟨V.non, H2, J.os, J.bare, J.base, J.hok, rfl, q⟩
  | brk => exact (let ⟨_, _, _, q⟩ := h2; False.elim q)
  | cont => exact (let ⟨_, _, _, q⟩ := h2; False.elim q)
end
/-! ### repr of data -/
section
variable {X : Cx}
def rRepr (K : PySem.W.Frag) : List V → Hp → VK → Prop := fun xs H Q => ∃ (x : V) (d : PyData), xs = [x] ∧ Dp K H x d ∧ d.showable = true ∧ d.canLay0 = true ∧ d.depth ≤ 32 ∧ d.shown.length ≤ 1000000 ∧ Q (.str d.shown) H
theorem call_repr (hg : X.A.guards = some []) (hu : X.A.units + 64 < cLine) : CallR X (.builtin "repr") (rRepr X.K) := by
  intro pins s σ H xs us Q I r h
  obtain ⟨x, d, rfl, hd, hs, hc, hdp, hz, q⟩ := h
  obtain ⟨u, rfl, ru⟩ := vals1 r
  obtain ⟨as, rd⟩ := Dp.reads I d x u hd ru
  have hdd := PyData.hasDict_of_canLay d hc
  have hzz : d.shown.length ≤ sizeLine := by rw [sizeLine_eq]; omega
  have fin : ∀ (h' : Heap) (tk : Tok) (tk' : Nat), (∀ b o, s.heap.get? b = some o → h'.get? b = some o) → EP X pins σ Q (.str d.shown tk) { s with heap := h', toks := tk' } :=
    fun h' tk tk' hk => ⟨.str d.shown, H, I.kept hk, ⟨tk, rfl⟩, q⟩
  cases hd with
  | non => cases ru; exact PySem.P.repr_of_none (fin s.heap _ _ fun _ _ e => e)
  | bl b => cases ru; exact PySem.P.repr_of_bool (fin s.heap _ _ fun _ _ e => e)
  | int i =>
    obtain ⟨t, rfl⟩ := ru
    have hi : i.natAbs.log2 < 1920 := by simpa [PyData.showable] using hs
    exact PySem.P.repr_of_int hi (fin s.heap _ _ fun _ _ e => e)
  | str z =>
    obtain ⟨t, rfl⟩ := ru
    exact PySem.P.repr_of_str (fin s.heap _ _ fun _ _ e => e) hzz
  | lst h1 h2 =>
    cases ru
    exact repr_of_reads' rd hs (PyData.noDict_hsm hdd) hg (by omega) (fun _ _ e => e) (fun h' u tk hk => fin h' u tk hk) hzz
  | tup h1 h2 =>
    cases ru
    exact repr_of_reads' rd hs (PyData.noDict_hsm hdd) hg (by omega) (fun _ _ e => e) (fun h' u tk hk => fin h' u tk hk) hzz
end
end Mw

namespace Mw
open PySem PySem.Spec PyProof.Rows L2
/-! ### the end of a law row: the law's def runs where nothing is under way; tables of code objects are tracked -/
/-- the abstract heap at the law's call: the tables, and the script where it is no object of the text -/
def H0 (K : PySem.W.Frag) (a : Addr) (ob : Obj) (xs : List V) (T : List Addr) : Hp := fun b =>
  if b ∈ T then some (.tbl #[]) else if b = a ∧ K.lookup a = none then some (.frz ob (.lst xs)) else none
section
variable {P : Program} {w : World} {K : PySem.W.Frag} {mg mb : Str → Option Value} {k : Nat} {fa a : Addr} {cs : List (Addr × Addr)} {fd : FuncData} {x : Str} {sp : Sp} {s : Shared} {vs : List Value} {ns : List Int}
abbrev scr (vs : List Value) : Obj := { cls := .type "list", data := .seq vs.toArray }
abbrev tb0 : Obj := { cls := .none, data := .fields #[] }
theorem law_run (KX : K.In s.heap) (hns : s.heap.Ns mainGlobals mg) (hb : s.heap.Ns builtinsNs mb) (hbb : ∀ y : Str, y ≠ "__name__" → mb y = bootBuiltins y)
    (hlim : s.heap.NoLimit) (hg : s.gens = #[]) (tab : ∀ p ∈ cs, s.heap.get? p.2 = some tb0) (tabK : ∀ p ∈ cs, K.lookup p.2 = none)
    (cod : ∀ p ∈ cs, PySem.W.CodeHd s.heap p.1 p.2)
    (hbm : ∃ (bm : Addr) (ob : Obj), mg "__builtins__" = some (.ref bm) ∧ bm ≠ builtinsNs ∧ s.heap.get? bm = some ob ∧ ob.cls = .type "module" ∧ ob.dict = some builtinsNs ∧ ob.data = .plain)
    (ha : s.heap.get? a = some (scr vs)) (hi : IntsAre vs ns) (hl : ns.length ≤ sizeLine) (hr : Room k callerA)
    (F : ∀ base : Heap, K.In base → base.Ns mainGlobals mg → (∀ p ∈ cs, GxR.TabB base mg p.1 p.2) → FnG P w K mg base k fa fd [x] sp)
    (hbind : ∀ (s : Shared) (u : Value), BindsTo s fd ⟨[u], []⟩ [(x, u)])
    (hsp : ∀ H : Hp, (∀ p ∈ cs, H p.2 = some (.tbl #[])) → SqL K H a (ns.map V.int) → sp [.ref a] H (fun v _ => v = .bl true) fun _ _ _ => False) :
    codeAny (model P w) callerA (.call (.ref fa) ⟨[.ref a], []⟩)
      (fun r s' => r = .ok (.ret (.bool true)) ∧ OldK s.heap s'.heap ∧ s'.os = s.os ∧ AllBare s'.gens) s := by
  have rv : Vals (ns.map V.int) vs := vals_ints hi
  have lv : vs.length = ns.length := hi.length
  obtain ⟨T, hTd⟩ : ∃ T, T = cs.map (·.2) := ⟨_, rfl⟩
  have tT : ∀ b ∈ T, s.heap.get? b = some tb0 ∧ K.lookup b = none := fun b h => by
    rw [hTd] at h
    obtain ⟨p, hp, rfl⟩ := List.mem_map.mp h
    exact ⟨tab p hp, tabK p hp⟩
  have cT : ∀ p ∈ cs, p.2 ∈ T := fun p hp => by rw [hTd]; exact List.mem_map.mpr ⟨p, hp, rfl⟩
  have aT : a ∉ T := fun h => by
    have e := (tT a h).1
    rw [ha] at e
    exact absurd (congrArg Obj.data (Option.some.inj e)) (fun z => by cases z)
  obtain ⟨H, hH⟩ : ∃ H, H = H0 K a (scr vs) (ns.map V.int) T := ⟨_, rfl⟩
  have hT1 : ∀ b ∈ T, H b = some (.tbl #[]) := fun b h => by rw [hH]; exact if_pos h
  have hA1 : K.lookup a = none → H a = some (.frz (scr vs) (.lst (ns.map V.int))) := fun h => by
    rw [hH]; exact (if_neg aT).trans (if_pos ⟨rfl, h⟩)
  have hN1 : ∀ b, b ∉ T → ¬ (b = a ∧ K.lookup a = none) → H b = none := fun b h1 h2 => by
    rw [hH]; exact (if_neg h1).trans (if_neg h2)
  have three : ∀ b, (b ∈ T) ∨ (b = a ∧ K.lookup a = none ∧ b ∉ T) ∨ H b = none := fun b => by
    by_cases h1 : b ∈ T
    · exact .inl h1
    · by_cases h2 : b = a ∧ K.lookup a = none
      · exact .inr (.inl ⟨h2.1, h2.2, h1⟩)
      · exact .inr (.inr (hN1 b h1 h2))
  have hok : HOk P w H s.heap := fun b u e => by
    rcases three b with h | ⟨h1, h2, _⟩ | h
    · rw [hT1 b h] at e; cases e; exact (tT b h).1
    · subst h1
      rw [hA1 h2] at e; cases e
      exact ⟨ha, by rw [List.length_map]; exact hl, vs, _, rv, ha⟩
    · rw [h] at e; cases e
  have bk : ∀ b o, s.heap.get? b = some o → H b = none → (hidT s.heap H).get? b = some o := fun b o e n => hidT_get e n
  have other : ∀ b o, s.heap.get? b = some o → o.data ≠ .fields #[] → (∀ us n, o.data ≠ .seq us n) → H b = none := fun b o e d1 d2 => by
    rcases three b with h | ⟨h1, _, _⟩ | h
    · rw [(tT b h).1] at e; cases e; exact absurd rfl d1
    · subst h1; rw [ha] at e; cases e; exact absurd rfl (d2 _ _)
    · exact h
  have nsB : ∀ b m, s.heap.Ns b m → (hidT s.heap H).Ns b m := fun b m ⟨o, es, ep, e, d, r⟩ =>
    ⟨o, es, ep, bk b o e (other b o e (by rw [d]; nofun) fun us n => by rw [d]; nofun), d, r⟩
  have KB : K.In (hidT s.heap H) := fun b o e => bk b o (KX b o e) (by
    rcases three b with h | ⟨h1, h2, _⟩ | h
    · rw [(tT b h).2] at e; cases e
    · subst h1; rw [h2] at e; cases e
    · exact h)
  have md : Mod K mg (hidT s.heap H) := ⟨KB, nsB _ _ hns, ⟨mb, nsB _ _ hb, hbb⟩, let ⟨mc, h1, h2⟩ := hlim; ⟨mc, nsB _ _ h1, h2⟩⟩
  have TB : ∀ p ∈ cs, GxR.TabB (hidT s.heap H) mg p.1 p.2 := fun p hp => by
    refine ⟨?_, ?_, fun z => ?_⟩
    · obtain ⟨o, us, fi, tf, fl, tg, inF, tx, tt, e1, r1, r2, r3, r4, r5, r6, r7, r8, r9⟩ := cod p hp
      refine ⟨o, us, fi, tf, fl, tg, inF, tx, tt, bk _ o e1 (other _ o e1 (fun z => ?_) fun ws n => by rw [r2]; nofun), r1, r2, r3, r4, r5, r6, r7, r8, r9⟩
      rw [r2] at z
      cases z
      simp at r3
    · obtain ⟨bm, ob, b1, b2, b3, b4, b5, b6⟩ := hbm
      refine ⟨bm, ob, b1, b2, fun q => ?_, fun q => ?_, bk _ ob b3 (other _ ob b3 (by rw [b6]; nofun) fun us n => by rw [b6]; nofun), b4, b5, b6⟩
      · obtain ⟨o, es, ep, e, d, _⟩ := hns
        rw [q, e] at b3
        cases b3
        rw [d] at b6
        cases b6
      · rw [q, tab p hp] at b3
        cases b3
        cases b6
    · obtain ⟨o, es, ep, e, d, _⟩ := hns
      rw [z, tab p hp] at e
      cases e
      cases d
  have e0 : Env0 P w K mg (hidT s.heap H) callerA [] s H :=
    ⟨rfl, md, fun b o e => of_hidT e, Nat.le_of_eq (hidT_size _ _), trivial, fun b hb => absurd (show b ∈ ([] : List Addr) from hb) List.not_mem_nil, hok, .of_eq hg⟩
  have sq : SqL K H a (ns.map V.int) := by
    cases q : K.lookup a with
    | none => exact .inl (.inr ⟨_, hA1 q⟩)
    | some o =>
      have e := KX a o q
      rw [ha] at e
      cases e
      exact .inr ⟨_, vs.toArray, _, q, rfl, rfl, rfl, by rw [List.size_toArray, lv]; exact hl, by simpa using rv⟩
  refine codeAny_mono ((F _ KB (nsB _ _ hns) TB).run callerA [] s H ⟨[.ref a], []⟩ [.ref a] [.ref a] _ _ hr rfl e0 (hbind s (.ref a)) (.cons rfl .nil) (hsp H (fun p hp => hT1 _ (cT p hp)) sq)) fun r s2 h => ?_
  cases r with
  | error e => exact False.elim h
  | ok fl =>
    cases fl with
    | next => exact False.elim h
    | brk => exact False.elim h
    | cont => exact False.elim h
    | ret u =>
      obtain ⟨v, H2, os, bare, un, hok2, ru, q⟩ := h
      obtain rfl : v = .bl true := q
      obtain rfl : u = Value.bool true := ru
      have old : ∀ b o, b ∉ T → s.heap.get? b = some o → s2.heap.get? b = some o := fun b o nb e => by
        rcases three b with h | ⟨h1, h2, _⟩ | h
        · exact absurd h nb
        · subst h1
          have z := hok2 _ _ (un.frzs _ _ _ (hA1 h2))
          rw [ha] at e
          cases e
          exact z.1
        · exact un.keep b o e h (by intro z; cases z) (by simp)
      have grown : ∀ b ∈ T, ∃ more : Array Value, s2.heap.get? b = some { cls := .none, data := .fields more } := fun b hb => by
        obtain ⟨more, z⟩ := un.tbls b #[] (hT1 b hb)
        exact ⟨_, hok2 b _ z⟩
      refine ⟨rfl, ⟨fun b o e => ?_, fun b o e => ?_⟩, os, bare⟩
      · by_cases hb : b ∈ T
        · obtain ⟨more, hm⟩ := grown b hb
          rw [hTd] at hb
          obtain ⟨p, hp, rfl⟩ := List.mem_map.mp hb
          rw [tab p hp] at e
          cases e
          exact .inr (.inl ⟨((cod p hp).tab (tab p hp)).isCodeTable, rfl, #[], more, rfl, by rw [Array.empty_append]; exact hm⟩)
        · exact .inl (old b o hb e)
      · by_cases hb : b ∈ T
        · obtain ⟨more, hm⟩ := grown b hb
          exact ⟨_, hm⟩
        · exact ⟨o, old b o hb e⟩
end
/-- what the head tells of a def of the view -/
def TabOf (K : PySem.W.Frag) (h : Heap) (x : Str) : Prop := ∀ c Q, PySem.W.tabIn K x = some (c, Q) → PySem.W.CodeHd h c Q ∧ h.get? Q = some tb0
/-- the goal that k_head leaves -/
theorem law_end {l : PySem.W.OpenLaw} {n k : Nat} {q : Program} {loose : List Str} {XP : (Str → Option Value) → Heap → Prop} {YP : World → Heap → Prop} {d : DefRec} {K : Params → PySem.W.Frag} {x : Str}
    (hn : l.most = some n) (hn2 : n ≤ sizeLine) (hdf : d.params.defaults = []) (hr : Room k callerA) (hY : ∀ (w : World) (h : Heap), YP w h → (K w.params).In h)
    (F : ∀ (w : World) (mg : Str → Option Value) (fa : Addr) (h : Heap), (K w.params).In h → h.Ns mainGlobals mg → mg d.name = some (.ref fa) →
      (∀ (y : Str), ((recsOf q).any fun e => e.name == y) = true → TabOf (K w.params) h y) →
      ∃ (fd : FuncData) (cs : List (Addr × Addr)) (sp : Sp), (∀ p ∈ cs, h.get? p.2 = some tb0 ∧ (K w.params).lookup p.2 = none ∧ PySem.W.CodeHd h p.1 p.2) ∧
        (∀ (s : Shared) (u : Value), BindsTo s fd ⟨[u], []⟩ [(x, u)]) ∧
        (∀ (H : Hp) (a : Addr) (ns : List Int), ns.length ≤ n → (∀ z ∈ ns, Builtin.Int.intBits z ≤ 1048576) → (∀ p ∈ cs, H p.2 = some (.tbl #[])) → SqL (K w.params) H a (ns.map V.int) →
          sp [.ref a] H (fun v _ => v = .bl true) fun _ _ _ => False) ∧
        ∀ base : Heap, (K w.params).In base → base.Ns mainGlobals mg → (∀ p ∈ cs, GxR.TabB base mg p.1 p.2) → FnG l.prog w (K w.params) mg base k fa fd [x] sp) :
    PySem.W.WalkO q loose XP YP l.row.toRowW d [] (fun f vs => PySem.call f vs) := by
  refine Att.attach_callB hn hdf fun w s0 s1 mg mb fa o pm cd doc a vs ns G Y ho hd hcd hmg hobj hints hlen hbits hg => ?_
  have KX := hY w _ Y
  have tabs : ∀ (y : Str), ((recsOf q).any fun e => e.name == y) = true → TabOf (K w.params) s1.heap y := fun y hy c Q ht => by
    have h1 : ((recsOf q).find? fun e => e.name == y).isSome = true := by
      rw [List.find?_isSome]
      obtain ⟨e, he, hz⟩ := List.any_eq_true.mp hy
      exact ⟨e, he, hz⟩
    obtain ⟨dy, hdy⟩ := Option.isSome_iff_exists.mp h1
    exact PySem.W.tab_of G.T KX hdy ht
  obtain ⟨fd, cs, sp, h1, h2, h3, h4⟩ := F w mg fa _ KX G.T.g hmg tabs
  exact law_run KX G.T.g G.T.b G.T.builtins G.T.nolimit hg (fun p hp => (h1 p hp).1) (fun p hp => (h1 p hp).2.1) (fun p hp => (h1 p hp).2.2) G.T.bmain hobj hints (Nat.le_trans hlen hn2) hr h4 h2
    fun H hH hS => h3 H a ns hlen hbits hH hS
end Mw

namespace Mw
open PySem PySem.Spec PyProof.Rows L2
/-! ### generator expressions: the element runs in a frame of its own -/
/-- around the element: one frame more -/
structure GA (X : Cx) (cenv : Env) (B : Around) : Prop where
  hd : B.handled = none
  fr : B.frames = some (cenv :: X.stack)
  gu : B.guards = X.A.guards
  dp : B.depth ≤ X.A.depth + 1
  un : B.units ≤ X.A.units + 12
theorem GA.room {X : Cx} {cenv : Env} {B : Around} {k : Nat} (a : GA X cenv B) (r : Room (k + 1) X.A) : Room k B :=
  ⟨a.hd, by have := a.dp; have := r.dp; omega, by have := a.un; have := r.un; omega⟩
/-- the context of the element -/
abbrev gcx (X : Cx) (B : Around) (s : Shared) (H : Hp) (cenv : Env) (fp : List Addr) : Cx :=
  { X with A := B, s_0 := s, H_0 := H, env := cenv, outer := X.stack, stack := cenv :: X.stack, ex := fp, fn := fun _ => false, calm := true, pn := [], xe := fun _ _ => False }
abbrev gEnv (X : Cx) (scope : Scope) (C : Addr) (code : Value) : Env := genEnv scope (cloFrom X.env.cells scope.names []) C code builtinsNs X.env
section
variable {X : Cx} {pins : List (Addr × Obj)} {σ : L2.St} {H : Hp} {s : Shared}
theorem gen_start {scope : Scope} {own : List (Str × Nat)} {fp : List Addr} {B : Around} {code : Value} {m : Str → Option Value} {t : Shared}
    (I : Inv X pins σ H s) (ok : BlkOk X.N X.env.scope scope own) (nc : ∀ y ∈ scope.names, y.2 ≠ .cell) (hN : X.N.Nodup) (hfp : ∀ b ∈ fp, FpOk X pins H b ∧ b < s.heap.objs.size)
    (ga : GA X (gEnv X scope s.heap.objs.size code) B) (os : t.os = s.os) (bare : AllBare t.gens) (kp : ∀ b o, s.heap.get? b = some o → t.heap.get? b = some o) (hn : t.heap.Ns s.heap.objs.size m) :
    Inv (gcx X B s H (gEnv X scope s.heap.objs.size code) fp) [] (wipe σ (own.map (·.2))) H t := by
  have hfree : ∀ y ∈ scope.names, y.2 = .free → ∃ c, X.env.cells.lookup y.1 = some c := fun y hy e => by
    rcases ok.free y hy e with k | k
    · exact I.ok.has _ (.inl k)
    · exact I.ok.has _ (.inr k)
  have cl : ∀ {y c}, (cloFrom X.env.cells scope.names []).lookup y = some c → X.env.cells.lookup y = some c ∧ c < s.heap.objs.size := fun {y c} e => by
    rcases cloFrom_mem (PySem.mem_of_lookup e) with hm | ⟨h1, h2⟩
    · cases hm
    · obtain ⟨c1, hc1⟩ := hfree _ h1 rfl
      have hc1' : X.env.cells.lookup y = some c1 := hc1
      rw [hc1'] at h2
      have e2 : c = c1 := h2
      rw [e2]
      obtain ⟨_, z⟩ := I.cell _ _ hc1'
      exact ⟨hc1', z.lt⟩
  have cf : ∀ {y}, scope.names.lookup y = some .free → ∃ c, (cloFrom X.env.cells scope.names []).lookup y = some c := fun {y} e => by
    obtain ⟨c, h⟩ := mem_lookup (cloFrom_has (cells := X.env.cells) (acc := []) (PySem.mem_of_lookup e))
    exact ⟨c, h⟩
  have okG : (gcx X B s H (gEnv X scope s.heap.objs.size code) fp).Ok := by
    refine ⟨I.ok.mod, ok.kind, I.ok.glob, rfl, Nat.le_refl _, fun y z c e1 e2 => I.ok.inj y z c (cl e1).1 (cl e2).1, fun y hy => ?_, fun y c z => (Bool.false_ne_true z).elim, fun _ => ga.hd, ga.fr, .inr ⟨rfl, rfl⟩,
      fun b hb => ⟨Nat.ne_of_lt (hfp b hb).2, fun y c e => (hfp b hb).1.2.2.2.2.1 y c (cl e).1⟩, I.bs, Nat.le_trans I.ok.bsz I.sz, fun b o e hb => ?_, fun b hb z => ?_, I.stack, I.stkFree⟩
    · have hy' : scope.names.lookup y = some .cell ∨ scope.names.lookup y = some .free := hy
      rcases hy' with h | h
      · exact absurd rfl (nc _ (PySem.mem_of_lookup h))
      · exact cf h
    · rcases (hfp b hb).1.2.2.2.1 with z | z
      · exact I.ok.noex b o e z
      · exact absurd (Nat.lt_of_lt_of_le (Heap.lt_size e) (Nat.le_trans I.ok.bsz z)) (Nat.lt_irrefl _)
    · rcases List.mem_cons.mp (I.stkSub b z) with z | z
      · exact (hfp b hb).1.2.1 z
      · exact (hfp b hb).1.2.2.1 z
  refine ⟨okG, os, bare, Un.kept kp, ⟨m, hn, fun i y v e1 e2 e3 => ?_⟩, fun y c e => ?_, I.hok.fresh (Nat.le_refl _), fun y c e => I.freeC y c (cl e).1, fun p hp => ?_, I.hok.kept kp, by rw [wipe_length]; exact I.len⟩
  · obtain ⟨e2, hw⟩ := wipe_some e2
    have nl : ∀ k, scope.names.lookup y = some k → k = .local ∨ k = .cell → False := fun k hk hk' => by
      rcases ok.own _ (PySem.mem_of_lookup hk) hk' with q | q
      · obtain ⟨p, hp, hpy⟩ := List.mem_map.mp q
        have e4 := ok.ix p hp
        have hpy' : p.1 = y := hpy
        rw [hpy'] at e4
        exact hw (List.mem_map.mpr ⟨p, hp, nodup_ix hN e4 e1⟩)
      · exact q (List.mem_of_getElem? e1)
    have fr : scope.names.lookup y = some .free := by
      have e3' : Vis scope y := e3
      rcases e3' with k | k | k
      · exact (nl _ k (.inl rfl)).elim
      · exact (nl _ k (.inr rfl)).elim
      · exact k
    obtain ⟨c, hc⟩ := cf fr
    have hc2 := (cl hc).1
    obtain ⟨m1, _, hl⟩ := I.loc
    have vs : Vis X.env.scope y := (ok.free _ (PySem.mem_of_lookup fr) rfl).elim (fun k => .inr (.inl k)) (fun k => .inr (.inr k))
    obtain ⟨u, ru, lk⟩ := hl i y v e1 e2 vs
    refine ⟨u, ru, .inr ⟨.inr fr, c, hc, ?_⟩⟩
    rcases lk with ⟨k, _⟩ | ⟨_, c', e', z⟩
    · have k' : X.env.scope.names.lookup y = some .local := k
      rcases ok.free _ (PySem.mem_of_lookup fr) rfl with q | q
      · rw [show X.env.scope.names.lookup y = _ from q] at k'; cases k'
      · rw [show X.env.scope.names.lookup y = _ from q] at k'; cases k'
    · rw [hc2] at e'; cases e'
      exact z.keeps kp
  · obtain ⟨u, z⟩ := I.cell y c (cl e).1
    exact ⟨u, z.keeps kp⟩
  · exact absurd (show p ∈ ([] : List (Addr × Obj)) ++ [] from hp) (by simp)
/-- while the generator sleeps only objects at sl turn -/
structure Idle (sl : List Addr) (s t : Shared) : Prop where
  os : t.os = s.os
  bare : AllBare t.gens
  kp : ∀ b o, b ∉ sl → s.heap.get? b = some o → t.heap.get? b = some o
  ob : ∀ b ∈ sl, ∃ o, t.heap.get? b = some o
theorem Inv.idle {sl : List Addr} {t : Shared} (I : Inv X pins σ H s) (f : ∀ b ∈ sl, FpOk X pins H b) (z : Idle sl s t) : Inv X pins σ H t := by
  obtain ⟨th, tg, td, tt, to⟩ := t
  obtain rfl : to = s.os := z.os
  have nb : ∀ b u, H b = some u → b ∉ sl := fun b u e hb => by rw [(f b hb).1] at e; cases e
  refine I.step (g' := tg) (t' := tt) (d' := td) (ch := sl) (fun b hb => ⟨(f b hb).2.2.2.1, (f b hb).2.1, (f b hb).2.2.2.2.1, (f b hb).2.2.2.2.2⟩) (fun b o _ _ hc e _ => z.kp b o hc e)
    (fun b o _ _ hc e _ => ⟨o.slots, z.kp b o hc e⟩) (fun _ _ _ _ n => n) (fun b o hc e => ⟨o, z.kp b o hc e⟩) (fun _ _ e => e) (fun _ _ _ e => e) (fun b ps e => ⟨#[], by rw [e]; simp⟩) (fun m hm => ?_) (fun b u e => ?_) z.bare
  · obtain ⟨o, es, ep, ho, r⟩ := hm
    exact ⟨o, es, ep, z.kp _ o (fun hb => (f _ hb).2.1 rfl) ho, r⟩
  · refine (I.hok b u e).stay (fun c v hc q => z.kp c v ?_ q) (fun _ q => q) fun _ _ q => q
    rcases hc with y | y
    · rw [y]; exact nb b u e
    · exact nb c _ y
end
end Mw

namespace Mw
open PySem PySem.Spec PyProof.Rows L2
/-! ### the turns of a generator expression -/
/-- who draws: what it keeps (a), at objects of its own (sl) -/
structure Con (α : Type) (sl : List Addr) where
  stp : α → V → Option α
  cs : α → Heap → Prop
  ob : ∀ a h, cs a h → ∀ b ∈ sl, ∃ o, h.get? b = some o ∧ ∀ v, o.data ≠ .cell v
  kp : ∀ a h h', cs a h → (∀ b ∈ sl, ∀ o, h.get? b = some o → h'.get? b = some o) → cs a h'
section
variable {α : Type} {sl : List Addr}
def gY (Y : Cx) (c : Con α sl) (Fi : α → V → Hp → Prop) : Protocol := fun n s0 v s1 kap =>
  ∃ (a : α) (y : V) (ps : List (Addr × Obj)) (σ : L2.St) (H : Hp), RelV y v ∧ Inv Y ps σ H s1 ∧ (∀ b ∈ sl, H b = none) ∧ c.cs a s1.heap ∧
    ((c.stp a y = none ∧ Fi a y H) ∨ ∃ a', c.stp a y = some a' ∧ ∀ s2, Idle sl s1 s2 → c.cs a' s2.heap → kap (.send .none) s2)
def gR (Y : Cx) (c : Con α sl) (En : α → Hp → Prop) : Nat → Shared → Shared → Prop := fun n s0 s1 =>
  ∃ (a : α) (ps : List (Addr × Obj)) (σ : L2.St) (H : Hp), Inv Y ps σ H s1 ∧ (∀ b ∈ sl, H b = none) ∧ c.cs a s1.heap ∧ En a H
/-- what the turns ask -/
def turns (J : It) (g : TG) (tt : TT) (te : TE) (vs : List Nat) (stp : α → V → Option α) (Fi : α → V → Hp → Prop) (En : α → Hp → Prop) (σ : L2.St) (W : Nat → Nat → α → Hp → Prop) : Prop :=
  ∀ i m a H, W i m a H → (J.stop i H ∧ En a H) ∨ (J.go i H ∧ ∃ Nx : α → Hp → Prop, (∀ a' H', Nx a' H' → ∃ m', m' < m ∧ W (i + 1) m' a' H') ∧
    ∀ x H', J.yld i H x H' → g x (wipe σ vs) H' fun σ2 H2 => wipe σ2 vs = wipe σ vs ∧ tt σ2 H2 fun b H3 =>
      if b = true then te σ2 H3 fun y H4 => (stp a y = none ∧ Fi a y H4) ∨ ∃ a', stp a y = some a' ∧ Nx a' H4 else Nx a H3)
section
variable {Y : Cx} {fp : List Addr} {it : Addr} {tn : Nat → Heap → Prop} {J : It} {elt tg iter : Expr} {ifs : List Expr} {scope : Scope} {pos : Pos} {g : TG} {tt : TT} {te : TE} {vs : List Nat} {σ : L2.St} {W : Nat → Nat → α → Hp → Prop} {Fi : α → V → Hp → Prop} {En : α → Hp → Prop} {Ag : Around}
theorem gen_loop (c : Con α sl) (hcalm : Y.calm = true) (hpn : Y.pn = []) (hxe : Y.xe = fun _ _ => False) (hex : Y.ex = fp) (T : Turn Y.prog Y.w Y.K tg J fp it tn) (dj : ∀ b ∈ fp, b ∉ sl)
    (sf : ∀ b ∈ sl, b ≠ Y.env.locals ∧ b ∉ Y.fs ∧ Y.s_0.heap.objs.size ≤ b ∧ ∀ x c, Y.env.cells.lookup x = some c → c ≠ b)
    (pg : PG Y tg g) (pt : PTs Y ifs tt) (pe : PE Y elt te) (hco : Y.env.scope.isCoroutine = false)
    (hA : Ag.over (.compLoop (.GeneratorExp elt [⟨tg, iter, ifs, 0⟩] scope pos) 0 (.ref it) .none Y.env) [] = Y.A) (tu : turns J g tt te vs c.stp Fi En σ W) :
    ∀ (m n i : Nat) (a : α) (s0 s : Shared) (H : Hp), m < n → W i m a H → Inv Y [] (wipe σ vs) H s → tn i s.heap → (∀ b ∈ fp, H b = none) → (∀ b ∈ sl, H b = none) → c.cs a s.heap →
      Seg (model Y.prog Y.w) Ag (fun n s0 r s1 => r = .ok .next ∧ gR Y c En n s0 s1) (gY Y c Fi) n s0
        (.compLoop (.GeneratorExp elt [⟨tg, iter, ifs, 0⟩] scope pos) 0 (.ref it) .none Y.env)
        ((model Y.prog Y.w).den (.compLoop (.GeneratorExp elt [⟨tg, iter, ifs, 0⟩] scope pos) 0 (.ref it) .none Y.env)) [] s := by
  have hyo : ∀ v, yieldOut Y.env v = yieldValue v := fun v => by simp only [yieldOut, hco, Bool.false_eq_true, if_false]
  have nop : ∀ {H : Hp} {s : Shared} {ps : List (Addr × Obj)} {σ' : L2.St}, Inv Y ps σ' H s → Inv Y [] σ' H s := fun {H s ps σ'} I => I.pins_of fun p hp => by cases hp
  have slOk : ∀ {H : Hp} {ps : List (Addr × Obj)}, (∀ b ∈ sl, H b = none) → (∀ p ∈ ps, p.1 ∉ sl) → ∀ b ∈ sl, FpOk Y ps H b := fun {H ps} h1 h2 b hb =>
    ⟨h1 b hb, (sf b hb).1, (sf b hb).2.1, .inr (sf b hb).2.2.1, (sf b hb).2.2.2, fun p hp e => h2 p (by rw [hpn] at hp; exact hp) (by rw [e]; exact hb)⟩
  have fpOk : ∀ {H : Hp} {s : Shared} {ps : List (Addr × Obj)} {σ' : L2.St}, Inv Y ps σ' H s → (∀ b ∈ fp, H b = none) → (∀ p ∈ ps, p.1 ∉ fp) → ∀ b ∈ fp, FpOk Y ps H b := fun {H s ps σ'} I h1 h2 b hb => by
    have hb' : b ∈ Y.ex := by rw [hex]; exact hb
    exact ⟨h1 b hb, (I.ok.exf b hb').1, I.ok.exfs b hb', .inl hb', (I.ok.exf b hb').2, fun p hp e => h2 p (by rw [hpn] at hp; exact hp) (by rw [e]; exact hb)⟩
  intro m
  induction m using Nat.strongRecOn with
  | ind m ih =>
    intro n i a s0 s H hmn w I st nfp nsl hcs
    show Seg _ Ag _ _ n s0 _ ((compTurn (.GeneratorExp elt [⟨tg, iter, ifs, 0⟩] scope pos) 0 (.ref it) .none Y.env).onRaise (leaving Y.env)) [] s
    rw [compTurn_gen, Sem.onRaise_eq_wrap]
    refine seg_bind_wrap (wpAny_standAt ?_)
    have I1 : Inv Y ([] ++ pinsAt sl s.heap) (wipe σ vs) H s := I.pinned (slOk nsl fun p hp => by cases hp) (c.ob a s.heap hcs)
    have f1 : ∀ b ∈ fp, FpOk Y ([] ++ pinsAt sl s.heap) H b := fpOk I1 nfp fun p hp hb => by
      rw [List.nil_append] at hp
      exact dj _ hb (of_pinsAt hp).1
    rcases tu i m a H w with ⟨stop, en⟩ | ⟨go, Nx, hNx, step⟩
    · refine seg_bind_wrap ?_
      rw [hA]
      refine thn (T.done Y rfl rfl rfl hcalm i _ s _ H _ I1 f1 st stop) fun r s1 hr => ?_
      obtain ⟨rfl, J1⟩ := hr
      refine seg_end (.ok .next) ⟨rfl, a, _, _, H, J1, nsl, c.kp a _ _ hcs fun b hb o e => ?_, en⟩
      exact (J1.pin (b, o) (List.mem_append_right _ (List.mem_append_right _ (mem_pinsAt hb e)))).1
    · refine seg_bind_wrap ?_
      rw [hA]
      refine thn (T.item Y rfl rfl rfl hcalm i _ s _ H _ I1 f1 st go) fun r s1 hr => ?_
      obtain ⟨u, rfl, h1⟩ := hr
      refine seg_bind_wrap ?_
      rw [hA]
      refine thn h1 fun _ s2 h2 => ?_
      obtain ⟨x, H2, I2, rx, yl, st2, nfp2⟩ := h2
      have I3 := I2.pinned (fpOk I2 nfp2 fun p hp hb => by
        rw [List.nil_append] at hp
        exact dj _ hb (of_pinsAt hp).1) (T.obj _ _ st2)
      refine seg_bind_wrap ?_
      rw [hA]
      refine wpAny_mono (pg.run _ s2 _ H2 x u _ I3 rx (step x H2 yl)) (fun _ s3 h3 => ?_) (fun _ _ z => by rw [hxe] at z; exact z.elim)
      obtain ⟨σ3, H3, I4, hw3, q3⟩ := h3
      refine seg_bind_wrap ?_
      rw [hA]
      refine wpAny_mono (pt.run _ s3 σ3 H3 _ I4 q3) (fun b s4 h4 => ?_) (fun _ _ z => by rw [hxe] at z; exact z.elim)
      obtain ⟨H4, I5, q4⟩ := h4
      -- behind the turn
      have keepS : ∀ {s' : Shared} {H' : Hp} {σ' : L2.St}, Inv Y ([] ++ pinsAt sl s.heap ++ pinsAt fp s2.heap) σ' H' s' → (∀ b ∈ sl, H' b = none) ∧ c.cs a s'.heap ∧ tn (i + 1) s'.heap ∧ ∀ b ∈ fp, H' b = none := fun {s' H' σ'} I' => by
        have ps : ∀ b ∈ sl, ∀ o, s.heap.get? b = some o → s'.heap.get? b = some o ∧ H' b = none := fun b hb o e =>
          let z := I'.pin (b, o) (List.mem_append_right _ (List.mem_append_left _ (List.mem_append_right _ (mem_pinsAt hb e))))
          ⟨z.1, z.2.1⟩
        have pf : ∀ b ∈ fp, ∀ o, s2.heap.get? b = some o → s'.heap.get? b = some o ∧ H' b = none := fun b hb o e =>
          let z := I'.pin (b, o) (List.mem_append_right _ (List.mem_append_right _ (mem_pinsAt hb e)))
          ⟨z.1, z.2.1⟩
        refine ⟨fun b hb => ?_, c.kp a _ _ hcs fun b hb o e => (ps b hb o e).1, T.keep _ _ _ st2 fun b hb o e => (pf b hb o e).1, fun b hb => ?_⟩
        · obtain ⟨o, e, _⟩ := c.ob a s.heap hcs b hb
          exact (ps b hb o e).2
        · obtain ⟨o, e, _⟩ := T.obj _ _ st2 b hb
          exact (pf b hb o e).2
      have back : ∀ {s' : Shared} {H' : Hp} {ps : List (Addr × Obj)}, Inv Y ps σ3 H' s' → Inv Y [] (wipe σ vs) H' s' := fun {s' H' ps} I' =>
        (nop I').weak (by rw [← hw3, wipe_length]) fun j v e => by rw [← hw3] at e; exact (wipe_some e).1
      cases b with
      | false =>
        simp only [Bool.false_eq_true, if_false] at q4 ⊢
        obtain ⟨m', hm, w'⟩ := hNx a H4 q4
        obtain ⟨k1, k2, k3, k4⟩ := keepS I5
        exact seg_again rfl (ih m' hm n (i + 1) a s0 s4 H4 (by omega) w' (back I5) k3 k4 k1 k2)
      | true =>
        simp only [if_true] at q4 ⊢
        simp only [hyo]
        rw [Sem.bind_eq_wrap', Sem.bind_eq_wrap', Sem.wrap_wrap, Sem.wrap_wrap]
        refine seg_wrap ?_
        rw [hA]
        refine wpAny_mono (pe.run _ s4 σ3 H4 _ I5 q4) (fun v s5 h5 => ?_) (fun _ _ z => by rw [hxe] at z; exact z.elim)
        obtain ⟨y, H5, I6, ry, q5⟩ := h5
        obtain ⟨k1, k2, k3, k4⟩ := keepS I6
        rcases q5 with ⟨q5, q6⟩ | ⟨a', q5, nx⟩
        · obtain ⟨n', rfl⟩ : ∃ n', n = n' + 1 := ⟨n - 1, by omega⟩
          exact seg_at (seg_yield rfl rfl rfl ⟨a, y, _, _, H5, ry, I6, k1, k2, .inl ⟨q5, q6⟩⟩)
        · obtain ⟨m', hm, w'⟩ := hNx a' H5 nx
          obtain ⟨n', rfl⟩ : ∃ n', n = n' + 1 := ⟨n - 1, by omega⟩
          refine seg_at (seg_yield rfl rfl rfl ⟨a, y, _, _, H5, ry, I6, k1, k2, .inr ⟨a', q5, fun s6 z hcs' => ?_⟩⟩)
          have I7 : Inv Y [] (wipe σ vs) H5 s6 := Inv.idle (back I6) (slOk k1 fun p hp => by cases hp) z
          refine seg_again rfl (ih m' hm n' (i + 1) a' s6 s6 H5 (by omega) w' I7 (T.keep _ _ _ k3 fun b hb o e => z.kp b o (dj b hb) e) k4 k1 hcs')
end
end
end Mw

namespace Mw
open PySem PySem.Spec PyProof.Rows L2
/-! ### a generator expression is made -/
/-- the generator at ga, not begun, in the state t -/
structure GMk (X : Cx) (pins : List (Addr × Obj)) (σ : L2.St) (elt tg iter : Expr) (ifs : List Expr) (scope : Scope) (pos : Pos) (ga g : Nat) (t : Shared) (it : Addr) (fp : List Addr) (tn : Nat → Heap → Prop) (J : It) (H : Hp) (s : Shared) (code : Value) : Prop where
  turn : Turn X.prog X.w X.K tg J fp it tn
  inv : Inv X pins σ H s
  st : tn 0 t.heap
  fok : ∀ b ∈ fp, FpOk X pins H b ∧ b < s.heap.objs.size
  os : t.os = s.os
  bare : AllBare t.gens
  kp : ∀ b o, s.heap.get? b = some o → t.heap.get? b = some o
  ns : ∃ m, t.heap.Ns s.heap.objs.size m
  isg : t.heap.IsGen ga g
  gen : t.gens[g]? = some (.fresh (.compStart (.GeneratorExp elt [⟨tg, iter, ifs, 0⟩] scope pos) 0 (.ref it) .none (gEnv X scope s.heap.objs.size code)))
  ga : s.heap.objs.size < ga
section
variable {X : Cx} {pins : List (Addr × Obj)} {σ : L2.St} {H : Hp} {s : Shared}
theorem gen_eval {c P : Addr} {elt tg iter : Expr} {ifs : List Expr} {scope : Scope} {own : List (Str × Nat)} {gpos : Pos} {wi : TI} {k : Nat} {Q' : Value → Shared → Prop} {R : It → Hp → Prop}
    (hr : Room k X.A) (TB : GxR.TabB X.base X.mg c P) (hcode : X.env.code = .ref c) (hi : PI X tg iter wi) (ok : BlkOk X.N X.env.scope scope own) (nc : ∀ y ∈ scope.names, y.2 ≠ .cell) (hco : scope.isCoroutine = false)
    (dot : scope.names.lookup (".0" : Str) = some NameKind.local) (hs : ∀ v, genFold iter X.env v = pure v) (I : Inv X pins σ H s)
    (h : wi σ H fun J H1 => GxR.TabG H1 P ∧ ∀ H2, GxR.Tabbed P H1 H2 → R J H2)
    (hQ : ∀ ga g t it fp tn J H2 s2 code, GMk X pins σ elt tg iter ifs scope gpos ga g t it fp tn J H2 s2 code → R J H2 → Q' (.ref ga) t) :
    wpAny (model X.prog X.w) X.A (eval (.GeneratorExp elt [⟨tg, iter, ifs, 0⟩] scope gpos) X.env) Q' X.xe s := by
  have hfree : ∀ y ∈ scope.names, y.2 = .free → ∃ c, X.env.cells.lookup y.1 = some c := fun y hy e => by
    rcases ok.free y hy e with k | k
    · exact I.ok.has _ (.inl k)
    · exact I.ok.has _ (.inr k)
  refine wpAny_GeneratorExp_make hco (closure_ok hfree) nc dot ok.kind (by have := hr.dp; omega) ?_ hs
  refine thn (hi.run pins s σ H _ I h) fun xv s1 hx => thn hx fun itv s2 h2 => ?_
  obtain ⟨it, fp, tn, J, H1, rfl, I1, T, st1, f1, ⟨ps, hP, ht⟩, q⟩ := h2
  have hPs : s2.heap.get? P = some { cls := .none, data := .fields ps } := I1.hok P _ hP
  have cd : PySem.W.CodeHd s2.heap c P := TB.code.keeps I1.bk
  have nP : ∀ b ∈ fp, b ≠ P := fun b hb e => by
    have z := (f1 b hb).1
    rw [e, hP] at z
    cases z
  -- behind the code object
  have go : ∀ (code : Value) (h3 : Heap) (tk : Nat) (more : Array Value), (∀ b o, b ≠ P → s2.heap.get? b = some o → h3.get? b = some o) → h3.get? P = some { cls := .none, data := .fields (ps ++ more) } → TriplesOk (ps ++ more).toList →
      wpAny (model X.prog X.w) X.A (builtinsFor X.env.globals X.env.builtins) (fun bi s4 => ∀ h', h'.Ns s4.heap.objs.size (fun y => if y = (".0" : Str) then some (.ref it) else none) → Heap.SameBut s4.heap.objs.size (s4.heap.push { cls := .type "frame", data := .dict #[] }) h' →
        Q' (.ref h'.objs.size) { s4 with
          gens := s4.gens.push (.fresh (.compStart (.GeneratorExp elt [⟨tg, iter, ifs, 0⟩] scope gpos) 0 (.ref it) .none (genEnv scope (cloFrom X.env.cells scope.names []) s4.heap.objs.size code bi X.env))),
          toks := s4.toks + 1 + 1 + 1,
          heap := h'.push { cls := .type "generator", data := .fields #[.int s4.gens.size 0, .str "<genexpr>" (s4.toks + 1), .str (X.env.qual ++ "<genexpr>") (s4.toks + 1 + 1)] } }) X.xe { s2 with heap := h3, toks := tk } := by
    intro code h3 tk more kp3 hP3 ht3
    have J3 := GxR.inv_tab (more := more) (h' := h3) (g' := s2.gens) (d' := s2.drawn) (t' := tk) I1 hP kp3 hP3 I1.bare
    obtain ⟨bm, ob, e1, e2, e3, e4, e5, e6, e7, e8⟩ := TB.bm
    refine wpAny_builtinsFor (m := X.mg) (by rw [I1.ok.glob]; exact J3.mod.glob.keeps J3.bk) e1 e2 (J3.bk _ _ e5) e6 e7 e8 ?_
    intro h' hn' sb
    have sz : h'.objs.size = h3.objs.size + 1 := by rw [sb.1]; exact Heap.size_push ..
    have kp' : ∀ b o, h3.get? b = some o → h'.get? b = some o := fun b o e => sb.extBut b o (Nat.ne_of_lt (Heap.lt_size e)) (Heap.get?_push_of_some _ e)
    have kp5 : ∀ (og : Obj) b o, h3.get? b = some o → (h'.push og).get? b = some o := fun og b o e => Heap.get?_push_of_some _ (kp' b o e)
    refine hQ _ _ _ it fp tn J (upd H1 P (.tbl (ps ++ more))) _ code ⟨T, J3, ?_, fun b hb => ⟨?_, ?_⟩, rfl, ?_, kp5 _, ⟨_, hn'.push _⟩, ⟨_, _, _, Heap.get?_push_size _ rfl, rfl, rfl, rfl⟩, Array.getElem?_push_size .., ?_⟩
      (q _ ⟨⟨ps ++ more, upd_same, ht3⟩, fun b hb => upd_ne hb⟩)
    · exact T.keep _ _ _ st1 fun b hb o e => kp5 _ b o (kp3 b o (nP b hb) e)
    · obtain ⟨z1, z2, z3, z4, z5, z6⟩ := f1 b hb
      exact ⟨by rw [upd_ne (nP b hb)]; exact z1, z2, z3, z4, z5, z6⟩
    · obtain ⟨o, e, _⟩ := T.obj _ _ st1 b hb
      exact Heap.lt_size (kp3 b o (nP b hb) e)
    · exact I1.bare.push rfl
    · show h3.objs.size < h'.objs.size
      omega
  refine ⟨I1.nolimit, ?_⟩
  cases hf : codeAmong gpos ps.toList with
  | none =>
    refine wpAny_genexprCodeX hcode (cd.code hPs ht) (cd.tab hPs) hf fun c' h' tk hx hge hlt hco' _ htab' _ => ?_
    obtain ⟨o1, vs, f1, tf, fl, tg, inF, tx, tt, op, _, _, _, _, _, _, _, _, _, htr, _⟩ := hco'
    exact go _ h' tk _ hx htab'.2 htr
  | some cv =>
    refine wpAny_genexprCode_hit hcode (cd.code hPs ht) hf ?_
    exact go cv s2.heap s2.toks #[] (fun _ _ _ e => e) (by simpa using hPs) (by simpa using ht)
end
end Mw

namespace Mw
open PySem PySem.Spec PyProof.Rows L2 GenW
/-! ### the first turn; the drawing by all, any -/
section
variable {α : Type} {sl : List Addr} {X : Cx} {pins : List (Addr × Obj)} {σ : L2.St}
abbrev gG (elt tg iter : Expr) (ifs : List Expr) (scope : Scope) (pos : Pos) : Expr := .GeneratorExp elt [⟨tg, iter, ifs, 0⟩] scope pos
abbrev gB (Ag : Around) (elt tg iter : Expr) (ifs : List Expr) (scope : Scope) (pos : Pos) (it : Addr) (cenv : Env) : Around := Ag.over (.compLoop (gG elt tg iter ifs scope pos) 0 (.ref it) .none cenv) []
theorem ga_of {Ag : Around} {elt tg iter : Expr} {ifs : List Expr} {scope : Scope} {pos : Pos} {it : Addr} {cenv : Env} {k : Nat} (hr : Room k X.A) (hf : X.A.frames = some X.stack)
    (h1 : Ag.handled = X.A.handled) (h2 : Ag.frames = X.A.frames) (h3 : Ag.guards = X.A.guards) (h4 : Ag.depth = X.A.depth) (h5 : Ag.units ≤ X.A.units + 8) : GA X cenv (gB Ag elt tg iter ifs scope pos it cenv) := by
  refine ⟨h1.trans hr.hd, ?_, ?_, ?_, ?_⟩
  · show pushEnvs [cenv] (pushEnvs [] Ag.frames) = _
    rw [h2, hf]
    rfl
  · show pushGuards [] (pushGuards [] Ag.guards) = _
    rw [h3]
    rfl
  · show Ag.depth + 0 + 1 ≤ _
    omega
  · show Ag.units + 0 + 3 ≤ _
    omega
/-- the generator may be woken -/
theorem gen_goes {Ag : Around} {elt tg iter : Expr} {ifs : List Expr} {scope : Scope} {own : List (Str × Nat)} {pos : Pos} {ga g : Nat} {t : Shared} {it : Addr} {fp : List Addr} {tn : Nat → Heap → Prop} {J : It} {H : Hp} {s : Shared} {code : Value} {gg : TG} {tt : TT} {te : TE}
    {W : Nat → Nat → α → Hp → Prop} {Fi : α → V → Hp → Prop} {En : α → Hp → Prop} {k m n : Nat} {a : α} {t2 : Shared} (c : Con α sl)
    (M : GMk X pins σ elt tg iter ifs scope pos ga g t it fp tn J H s code) (hr : Room k X.A) (ok : BlkOk X.N X.env.scope scope own) (nc : ∀ y ∈ scope.names, y.2 ≠ .cell) (hN : X.N.Nodup) (hco : scope.isCoroutine = false)
    (hsl : ∀ b ∈ sl, s.heap.objs.size < b) (ga_ : GA X (gEnv X scope s.heap.objs.size code) (gB Ag elt tg iter ifs scope pos it (gEnv X scope s.heap.objs.size code)))
    (pg : PG (gcx X (gB Ag elt tg iter ifs scope pos it (gEnv X scope s.heap.objs.size code)) s H (gEnv X scope s.heap.objs.size code) fp) tg gg)
    (pt : PTs (gcx X (gB Ag elt tg iter ifs scope pos it (gEnv X scope s.heap.objs.size code)) s H (gEnv X scope s.heap.objs.size code) fp) ifs tt)
    (pe : PE (gcx X (gB Ag elt tg iter ifs scope pos it (gEnv X scope s.heap.objs.size code)) s H (gEnv X scope s.heap.objs.size code) fp) elt te)
    (tu : turns J gg tt te (own.map (·.2)) c.stp Fi En σ W) (w0 : W 0 m a H) (hmn : m < n) (os2 : t2.os = t.os) (bare2 : AllBare t2.gens) (kp2 : ∀ b o, t.heap.get? b = some o → t2.heap.get? b = some o) (cs2 : c.cs a t2.heap) :
    (GenState.fresh (.compStart (gG elt tg iter ifs scope pos) 0 (.ref it) .none (gEnv X scope s.heap.objs.size code))).Goes (model X.prog X.w) Ag
      (fun n s0 r s1 => r = .ok .next ∧ gR (gcx X (gB Ag elt tg iter ifs scope pos it (gEnv X scope s.heap.objs.size code)) s H (gEnv X scope s.heap.objs.size code) fp) c En n s0 s1)
      (gY (gcx X (gB Ag elt tg iter ifs scope pos it (gEnv X scope s.heap.objs.size code)) s H (gEnv X scope s.heap.objs.size code) fp) c Fi) n (.send .none) t2 := by
  obtain ⟨mm, ns⟩ := M.ns
  have I0 := gen_start (t := t2) (m := mm) M.inv ok nc hN M.fok ga_ (os2.trans M.os) bare2 (fun b o e => kp2 b o (M.kp b o e)) (ns.keeps kp2)
  have st0 : tn 0 t2.heap := M.turn.keep _ _ _ M.st fun b _ o e => kp2 b o e
  have nsl : ∀ b ∈ sl, H b = none := fun b hb => M.inv.hok.fresh (Nat.le_of_lt (hsl b hb))
  have nfp : ∀ b ∈ fp, H b = none := fun b hb => (M.fok b hb).1.1
  have loop := gen_loop (iter := iter) (scope := scope) (pos := pos) (Ag := Ag) (Fi := Fi) (En := En) (W := W) (σ := σ) (vs := own.map (·.2)) c rfl rfl rfl rfl M.turn
    (fun b hb hb2 => absurd (Nat.lt_trans (M.fok b hb).2 (hsl b hb2)) (Nat.lt_irrefl _))
    (fun b hb => ⟨Nat.ne_of_gt (hsl b hb), fun z => ?_, Nat.le_of_lt (hsl b hb), fun x cc e z => ?_⟩) pg pt pe hco rfl tu m n 0 a t2 t2 H hmn w0 I0 st0 nfp nsl cs2
  · refine ⟨rfl, ?_⟩
    show Seg _ Ag _ _ _ t2 _ ((compStart (gG elt tg iter ifs scope pos) 0 (.ref it) .none (gEnv X scope s.heap.objs.size code)).onRaise (leaving (gEnv X scope s.heap.objs.size code))) [] t2
    unfold compStart
    rw [Sem.onRaise_eq_wrap]
    show Seg _ Ag _ _ _ t2 _ ((ask >>= _).wrap _ _ _ _) [] t2
    refine seg_bind_wrap (wpAny_askSetting ?_)
    split
    · exact seg_again rfl loop
    · first
        | exact seg_bind_wrap (wpAny_rule (seg_bind_wrap (wpAny_standAt (seg_bind_wrap (M.turn.self _ 0 t2 _ _ st0 (seg_again rfl loop))))))
        | (refine seg_bind_wrap (wpAny_rule ?_); show Seg _ Ag _ _ _ t2 _ ((standAt iter.pos >>= _).wrap _ _ _ _) [] t2; exact seg_bind_wrap (wpAny_standAt (seg_bind_wrap (M.turn.self _ 0 t2 _ _ st0 (seg_again rfl loop)))))
  · obtain ⟨_, o, ho, _⟩ := M.inv.stack.mem (show b ∈ frs X.stack from z)
    exact absurd (Nat.lt_trans (Heap.lt_size ho) (hsl b hb)) (Nat.lt_irrefl _)
  · have lt := (I0.cell x cc e)
    obtain ⟨u, hu⟩ := lt
    have e' : (cloFrom X.env.cells scope.names []).lookup x = some cc := e
    rcases cloFrom_mem (PySem.mem_of_lookup e') with hm | ⟨h1, h2⟩
    · cases hm
    · have hfree : ∃ c1, X.env.cells.lookup x = some c1 := by
        rcases ok.free _ h1 rfl with q | q
        · exact M.inv.ok.has _ (.inl q)
        · exact M.inv.ok.has _ (.inr q)
      obtain ⟨c1, hc1⟩ := hfree
      rw [hc1] at h2
      have h2' : cc = c1 := h2
      obtain ⟨u1, z1⟩ := M.inv.cell _ _ hc1
      have := z1.lt
      rw [← h2', z] at this
      exact absurd (Nat.lt_trans this (hsl b hb)) (Nat.lt_irrefl _)
/-- back in the def -/
theorem gen_back {B : Around} {H H' : Hp} {s s' : Shared} {cenv : Env} {fp : List Addr} {ps : List (Addr × Obj)} {σ' : L2.St} {g : Nat} {x : GenState} (I : Inv X pins σ H s) (fok : ∀ b ∈ fp, FpOk X pins H b) (J : Inv (gcx X B s H cenv fp) ps σ' H' s') (hx : x.bare = true) :
    Inv X pins σ H' (s'.setGen g x) :=
  I.call' (ch := fp) (s' := s'.setGen g x) J.os J.base J.hok (allBare_setGen J.bare hx) fun b hb => ⟨(fok b hb).2.2.2.1, (fok b hb).2.1, (fok b hb).2.2.2.2.1, (fok b hb).2.2.2.2.2⟩
/-- all draws -/
def conA (ga g : Nat) (go : Bool) : Con Unit [ga] where
  stp := fun _ y => if y = .bl go then some () else none
  cs := fun _ h => h.IsGen ga g
  ob := fun _ h hc b hb => by
    obtain ⟨o, nm, qn, ho, h1, h2, h3⟩ := hc
    rw [List.mem_singleton.mp hb]
    exact ⟨o, ho, fun v z => by rw [h2] at z; cases z⟩
  kp := fun _ h h' hc k => by
    obtain ⟨o, nm, qn, ho, r⟩ := hc
    exact ⟨o, nm, qn, k _ (by simp) o ho, r⟩
theorem idle_set {s1 : Shared} {g : Nat} {x y : GenState} {ga : Addr} (hb : AllBare s1.gens) (hx : x.bare = true) (hy : y.bare = true) (hg : s1.heap.IsGen ga g) : Idle [ga] s1 ((s1.setGen g x).setGen g y) :=
  ⟨rfl, allBare_setGen (s := s1.setGen g x) (allBare_setGen hb hx) hy, fun _ _ _ e => e, fun b hb => by
    obtain ⟨o, nm, qn, ho, _⟩ := hg
    rw [List.mem_singleton.mp hb]
    exact ⟨o, ho⟩⟩
theorem all_loop {P : Program} {w : World} {A : Around} {Y : Cx} (hYP : Y.prog = P) (hYw : Y.w = w) {ga g : Nat} {Rr : Result → Shared → Prop} {Q : Bool → Hp → Prop} (hh : A.handled = none) (hd : A.depth < recursionLimit)
    (hE : ∀ ps σ H s1 h' x, x.bare = true → Inv Y ps σ H s1 → Q true H → (∀ b o, s1.heap.get? b = some o → h'.get? b = some o) → Rr (.ok (.ret (.bool true))) { s1.setGen g x with heap := h' })
    (hF : ∀ ps σ H s1 x, x.bare = true → Inv Y ps σ H s1 → Q false H → Rr (.ok (.ret (.bool false))) (s1.setGen g x)) :
    ∀ (n : Nat) (s : Shared), s.heap.IsGen ga g → s.heap.NoLimit →
      (∃ gs, s.gens[g]? = some gs ∧ gs.Goes (model P w) A.in1.in1 (fun n s0 r s1 => r = .ok .next ∧ gR Y (conA ga g true) (fun _ H => Q true H) n s0 s1) (gY Y (conA ga g true) fun _ y H => y = .bl false ∧ Q false H) n (.send .none) (s.setGen g .running)) →
      codeAny (model P w) A (.builtin "all.loop" ⟨[.ref ga], []⟩) Rr s := by
  subst hYP hYw
  intro n
  induction n with
  | zero =>
    intro s hg hl ⟨gs, hgs, hgo⟩
    refine codeAny_builtin F.entry_all_loop ?_
    rw [Around.under_plainId F.plain_all_loop _]
    show wpAny _ A.in1 (pyNext (.ref ga) >>= _) _ _ s
    refine wpAny_bind (wpAny_pyNext_genexpQ (A := A.in1) hh hl hd hg hgs hgo (fun v s1 gs' hb hv => ?_) fun s1 hp h' hk => ?_)
    · obtain ⟨a, y, ps, σ, H, ry, I, _, _, q⟩ := hv
      rcases q with ⟨_, rfl, q⟩ | ⟨a', q1, q2⟩
      · cases ry
        refine wpAny_bind (wpAny_holding (wpAny_truthy_bool ?_))
        refine wpAny_bind (wpAny_letGo ?_)
        simp only [Bool.false_eq_true, if_false]
        refine wpAny_bind (wpAny_rule (wpAny_pure ?_))
        exact hF ps σ H s1 gs' hb I q
      · have hi : s1.heap.IsGen ga g := by assumption
        exact (q2 _ (idle_set (x := .running) (y := .running) I.bare rfl rfl hi) hi).elim
    · obtain ⟨a, ps, σ, H, I, _, _, q⟩ := hp
      refine wpAny_bind (wpAny_rule (wpAny_pure ?_))
      exact hE ps σ H s1 h' .finished rfl I q hk
  | succ n ih =>
    intro s hg hl ⟨gs, hgs, hgo⟩
    have hgl : g < s.gens.size := (Array.getElem?_eq_some_iff.mp hgs).1
    refine codeAny_builtin F.entry_all_loop ?_
    rw [Around.under_plainId F.plain_all_loop _]
    show wpAny _ A.in1 (pyNext (.ref ga) >>= _) _ _ s
    refine wpAny_bind (wpAny_gsz (n := g + 1) hgl (wpAny_pyNext_genexpQ (A := A.in1) hh hl hd hg hgs hgo (fun v s1 gs' hb hv hsz => ?_) fun s1 hp h' hk hsz => ?_))
    · obtain ⟨a, y, ps, σ, H, ry, I, _, hi, q⟩ := hv
      rcases q with ⟨_, rfl, q⟩ | ⟨a', q1, q2⟩
      · cases ry
        refine wpAny_bind (wpAny_holding (wpAny_truthy_bool ?_))
        refine wpAny_bind (wpAny_letGo ?_)
        simp only [Bool.false_eq_true, if_false]
        refine wpAny_bind (wpAny_rule (wpAny_pure ?_))
        exact hF ps σ H s1 gs' hb I q
      · have ey : y = .bl true := by
          by_cases e : y = .bl true
          · exact e
          · have z : (conA ga g true).stp a y = none := if_neg e
            rw [z] at q1
            cases q1
        subst ey
        cases ry
        refine wpAny_bind (wpAny_holding (wpAny_truthy_bool ?_))
        refine wpAny_bind (wpAny_letGo ?_)
        simp only [if_true]
        have hi' : s1.heap.IsGen ga g := hi
        have hgl1 : g < s1.gens.size := by
          have e1 : (s1.setGen g gs').gens.size = s1.gens.size := setGen_size _ _ _
          omega
        refine wpAny_pure ⟨plainId_quiet F.plain_all_loop _, ih (s1.setGen g gs') hi' I.nolimit ⟨gs', setGen_at hgl1, ?_⟩⟩
        exact q2 _ (idle_set I.bare hb rfl hi') hi'
    · obtain ⟨a, ps, σ, H, I, _, _, q⟩ := hp
      refine wpAny_bind (wpAny_rule (wpAny_pure ?_))
      exact hE ps σ H s1 h' .finished rfl I q hk
end
end Mw

namespace Mw
open PySem PySem.Spec PyProof.Rows L2 GenW
/-! ### all(elt for tg in iter if ..) -/
abbrev stpA (go : Bool) : Unit → V → Option Unit := fun _ y => if y = .bl go then some () else none
def tAllG (P : Addr) (wi : TI) (g : TG) (tt : TT) (te : TE) (vs : List Nat) : TE := fun σ H Q => wi σ H fun J H1 => GxR.TabG H1 P ∧ ∀ H2, GxR.Tabbed P H1 H2 →
  ∃ W : Nat → Nat → Unit → Hp → Prop, (∃ m, W 0 m () H2) ∧ turns J g tt te vs (stpA true) (fun _ y H => y = .bl false ∧ Q (.bl false) H) (fun _ H => Q (.bl true) H) σ W
theorem boot_all : bootBuiltins "all" = some (.builtin "all") := by decide +kernel
section
variable {X : Cx}
/-- what a generator expression's parts are, in any frame of it -/
structure GParts (X : Cx) (elt tg iter : Expr) (ifs : List Expr) (scope : Scope) (own : List (Str × Nat)) (g : TG) (tt : TT) (te : TE) : Prop where
  ok : BlkOk X.N X.env.scope scope own
  nc : ∀ y ∈ scope.names, y.2 ≠ .cell
  co : scope.isCoroutine = false
  dot : scope.names.lookup (".0" : Str) = some NameKind.local
  hs : ∀ v, genFold iter X.env v = pure v
  pg : ∀ B s H C code fp, GA X (gEnv X scope C code) B → PG (gcx X B s H (gEnv X scope C code) fp) tg g
  pt : ∀ B s H C code fp, GA X (gEnv X scope C code) B → PTs (gcx X B s H (gEnv X scope C code) fp) ifs tt
  pe : ∀ B s H C code fp, GA X (gEnv X scope C code) B → PE (gcx X B s H (gEnv X scope C code) fp) elt te
theorem pe_allG {c P : Addr} {elt tg iter : Expr} {ifs : List Expr} {scope : Scope} {own : List (Str × Nat)} {p pos gpos : Pos} {wi : TI} {g : TG} {tt : TT} {te : TE} {k : Nat}
    (hr : Room k X.A) (hg : Gl X "all") (hm : X.mg "all" = none) (TB : GxR.TabB X.base X.mg c P) (hcode : X.env.code = .ref c) (hN : X.N.Nodup) (hi : PI X tg iter wi) (G : GParts X elt tg iter ifs scope own g tt te)
    (he : starEach [gG elt tg iter ifs scope gpos] X.env = (false, eval (gG elt tg iter ifs scope gpos) X.env) :: starEach [] X.env := by rfl) :
    PE X (.Call (.Name "all" p) [gG elt tg iter ifs scope gpos] [] pos) (tAllG P wi g tt te (own.map (·.2))) := by
  refine ⟨fun pins s σ H Q I h => ?_⟩
  refine wpAny_Call_Name_kw (ld_blt I hg hm boot_all ?_)
  refine PyProof.Rows.callWith_builtin1 ?_ he (by rfl)
  rw [he]
  show wpAny _ _ (spliced ((false, eval (gG elt tg iter ifs scope gpos) X.env) :: backTo pos (starEach [] X.env))) _ _ s
  refine Calls.spliced_cons (gen_eval (R := fun J H2 => ∃ W : Nat → Nat → Unit → Hp → Prop, (∃ m, W 0 m () H2) ∧ turns J g tt te (List.map (fun q : Str × Nat => q.2) own) (stpA true) (fun _ y H => y = .bl false ∧ Q (.bl false) H) (fun _ H => Q (.bl true) H) σ W)
    hr TB hcode hi G.ok G.nc G.co G.dot G.hs I h fun ga gn t it fp tn J H2 s2 code M hR => ?_)
  obtain ⟨W, ⟨m, w0⟩, tu⟩ := hR
  refine Calls.spliced_nil ?_
  refine call_function_tree F.kind_all F.plain_all F.entry_all (F.args_all1 _) ?_
  unfold Builtin.«all»
  refine wpAny_bind (m := oneArg "all" _) (wpAny_pure ?_)
  refine wpAny_bind (wpAny_pyIter_gen M.isg ?_)
  have ga_ : GA X (gEnv X scope s2.heap.objs.size code) (gB X.A.in1.in1 elt tg iter ifs scope gpos it (gEnv X scope s2.heap.objs.size code)) :=
    ga_of hr M.inv.ok.frames rfl rfl rfl rfl (by show X.A.units + 1 + 1 ≤ _; omega)
  have fok : ∀ b ∈ fp, FpOk X pins H2 b := fun b hb => (M.fok b hb).1
  refine wpAny_pure ⟨plainId_quiet F.plain_all_loop _, all_loop (Y := gcx X (gB X.A.in1.in1 elt tg iter ifs scope gpos it (gEnv X scope s2.heap.objs.size code)) s2 H2 (gEnv X scope s2.heap.objs.size code) fp) (Q := fun b H => Q (.bl b) H) rfl rfl hr.hd hr.depth
    (fun ps σ' H' s1 h' x hx J' q hk => ?_) (fun ps σ' H' s1 x hx J' q => ?_) (m + 1) t M.isg ?_ ⟨_, M.gen, ?_⟩⟩
  · refine ⟨.bl true, H', ?_, rfl, q⟩
    exact (gen_back M.inv fok J' hx).kept (t' := s1.toks) hk
  · exact ⟨.bl false, H', gen_back M.inv fok J' hx, rfl, q⟩
  · exact M.inv.nolimit.keeps M.kp
  · exact gen_goes (c := conA ga gn true) M hr G.ok G.nc hN G.co (fun b hb => by rw [List.mem_singleton.mp hb]; exact M.ga) ga_
      (G.pg _ _ _ _ _ _ ga_) (G.pt _ _ _ _ _ _ ga_) (G.pe _ _ _ _ _ _ ga_) tu w0 (Nat.lt_succ_self _) rfl (allBare_setGen M.bare rfl) (fun _ _ e => e) M.isg
end
end Mw

namespace Mw
open PySem PySem.Spec PyProof.Rows L2 GenW
/-! ### tuple(elt for tg in iter if ..) -/
abbrev stpL : List V → V → Option (List V) := fun a y => if a.length < sizeLine then some (a ++ [y]) else none
def conL (S ga g : Nat) : Con (List V) [S, ga] where
  stp := stpL
  cs := fun a h => h.IsGen ga g ∧ a.length ≤ sizeLine ∧ ∃ acc c, h.get? S = some (lstObj acc c) ∧ Vals a acc.toList
  ob := fun a h hc b hb => by
    obtain ⟨⟨o, nm, qn, ho, h1, h2, h3⟩, _, acc, c, hS, _⟩ := hc
    rcases List.mem_cons.mp hb with e | hb
    · rw [e]; exact ⟨_, hS, fun v z => by cases z⟩
    · rw [List.mem_singleton.mp hb]
      exact ⟨o, ho, fun v z => by rw [h2] at z; cases z⟩
  kp := fun a h h' hc k => by
    obtain ⟨⟨o, nm, qn, ho, r⟩, hl, acc, c, hS, rv⟩ := hc
    exact ⟨⟨o, nm, qn, k _ (by simp) o ho, r⟩, hl, acc, c, k _ (by simp) _ hS, rv⟩
theorem ext_loop {P : Program} {w : World} {A : Around} {Y : Cx} (hYP : Y.prog = P) (hYw : Y.w = w) {S ga g : Nat} {res : Value} {Rr : Result → Shared → Prop} {Q : List V → Hp → Prop} (hh : A.handled = none) (hd : A.depth < recursionLimit) (hSa : S ≠ ga) (hSc : S ≠ cStatics)
    (hE : ∀ ps σ H s1 h' x ys acc c, x.bare = true → Inv Y ps σ H s1 → Q ys H → ys.length ≤ sizeLine → s1.heap.get? S = some (lstObj acc c) → Vals ys acc.toList → (∀ b o, s1.heap.get? b = some o → h'.get? b = some o) → Rr (.ok (.ret res)) { s1.setGen g x with heap := h' }) :
    ∀ (n : Nat) (s : Shared), s.heap.IsGen ga g → s.heap.NoLimit →
      (∃ gs, s.gens[g]? = some gs ∧ gs.Goes (model P w) A.in1.in1 (fun n s0 r s1 => r = .ok .next ∧ gR Y (conL S ga g) Q n s0 s1) (gY Y (conL S ga g) fun _ _ _ => False) n (.send .none) (s.setGen g .running)) →
      codeAny (model P w) A (.builtin "list.extend.loop" ⟨[.ref S, .ref ga, res], []⟩) Rr s := by
  subst hYP hYw
  have idl : ∀ {s1 : Shared} {gs' : GenState} {acc : Array Value} {c : Nat} {v : Value}, AllBare s1.gens → gs'.bare = true → s1.heap.IsGen ga g → s1.heap.get? S = some (lstObj acc c) →
      Idle [S, ga] s1 (({ s1.setGen g gs' with heap := s1.heap.update S (Obj.mapSeq (·.push v)) } : Shared).setGen g .running) := fun {s1 gs' acc c v} hb hx hg hS => by
    refine ⟨rfl, allBare_setGen (s := s1.setGen g gs') (allBare_setGen hb hx) rfl, fun b o hn e => ?_, fun b hb => ?_⟩
    · exact (Heap.get?_update_other _ _ (Ne.symm fun z => hn (by simp [z]))).trans e
    · rcases List.mem_cons.mp hb with e | hb
      · rw [e]; exact ⟨_, Heap.get?_update_self (Obj.mapSeq (·.push v)) hS rfl⟩
      · obtain ⟨o, nm, qn, ho, _⟩ := hg
        rw [List.mem_singleton.mp hb]
        exact ⟨o, (Heap.get?_update_other _ _ hSa).trans ho⟩
  have pushd : ∀ {s1 : Shared} {gs' : GenState} {acc : Array Value} {c : Nat} {a : List V} {y : V} {v : Value}, s1.heap.IsGen ga g → s1.heap.get? S = some (lstObj acc c) → Vals a acc.toList → RelV y v → a.length < sizeLine →
      (conL S ga g).cs (a ++ [y]) (s1.heap.update S (Obj.mapSeq (·.push v))) := fun {s1 gs' acc c a y v} hg hS rv ry hl => by
    obtain ⟨o, nm, qn, ho, r⟩ := hg
    refine ⟨⟨o, nm, qn, (Heap.get?_update_other _ _ hSa).trans ho, r⟩, by rw [List.length_append, List.length_singleton]; omega, acc.push v, _, Heap.get?_update_self (Obj.mapSeq (·.push v)) hS rfl, ?_⟩
    rw [Array.toList_push]
    exact rv.append (.cons ry .nil)
  intro n
  induction n with
  | zero =>
    intro s hg hl ⟨gs, hgs, hgo⟩
    refine codeAny_builtin F.entry_extend_loop ?_
    rw [Around.under_plainId F.plain_extend_loop _]
    show wpAny _ A.in1 (pyNext (.ref ga) >>= _) _ _ s
    refine wpAny_bind (wpAny_pyNext_genexpQ (A := A.in1) hh hl hd hg hgs hgo (fun v s1 gs' hb hv => ?_) fun s1 hp h' hk => ?_)
    · obtain ⟨a, y, ps, σ, H, ry, I, _, hcs, q⟩ := hv
      obtain ⟨hi, hla, acc, c, hS, rv⟩ := hcs
      rcases q with ⟨_, q⟩ | ⟨a', q1, q2⟩
      · exact q.elim
      · have hlt : a.length < sizeLine := by
          by_cases z : a.length < sizeLine
          · exact z
          · have q1' : (if a.length < sizeLine then some (a ++ [y]) else none) = some a' := q1
            rw [if_neg z] at q1'
            cases q1'
        have ea : a' = a ++ [y] := by
          have q1' : (if a.length < sizeLine then some (a ++ [y]) else none) = some a' := q1
          rw [if_pos hlt] at q1'
          exact (Option.some.inj q1').symm
        subst ea
        exact (q2 _ (idl (v := v) (gs' := gs') I.bare hb hi hS) (pushd (gs' := gs') hi hS rv ry hlt)).elim
    · obtain ⟨a, ps, σ, H, I, _, ⟨hi, hla, acc, c, hS, rv⟩, q⟩ := hp
      exact wpAny_pure (hE ps σ H s1 h' .finished a acc c rfl I q hla hS rv hk)
  | succ n ih =>
    intro s hg hl ⟨gs, hgs, hgo⟩
    have hgl : g < s.gens.size := (Array.getElem?_eq_some_iff.mp hgs).1
    refine codeAny_builtin F.entry_extend_loop ?_
    rw [Around.under_plainId F.plain_extend_loop _]
    show wpAny _ A.in1 (pyNext (.ref ga) >>= _) _ _ s
    refine wpAny_bind (wpAny_gsz (n := g + 1) hgl (wpAny_pyNext_genexpQ (A := A.in1) hh hl hd hg hgs hgo (fun v s1 gs' hb hv hsz => ?_) fun s1 hp h' hk hsz => ?_))
    · obtain ⟨a, y, ps, σ, H, ry, I, _, hcs, q⟩ := hv
      obtain ⟨hi, hla, acc, c, hS, rv⟩ := hcs
      rcases q with ⟨_, q⟩ | ⟨a', q1, q2⟩
      · exact q.elim
      · have hlt : a.length < sizeLine := by
          by_cases z : a.length < sizeLine
          · exact z
          · have q1' : (if a.length < sizeLine then some (a ++ [y]) else none) = some a' := q1
            rw [if_neg z] at q1'
            cases q1'
        have ea : a' = a ++ [y] := by
          have q1' : (if a.length < sizeLine then some (a ++ [y]) else none) = some a' := q1
          rw [if_pos hlt] at q1'
          exact (Option.some.inj q1').symm
        subst ea
        have hsa : acc.size < sizeLine := by
          have e1 : a.length = acc.toList.length := rv.length
          have e2 : acc.toList.length = acc.size := Array.length_toList ..
          omega
        have hgl1 : g < s1.gens.size := by
          have e1 : (s1.setGen g gs').gens.size = s1.gens.size := setGen_size _ _ _
          omega
        show wpAny _ A.in1 (updateSeq S (·.push v) >>= _) _ _ _
        refine wpAny_bind ?_
        refine wpAny_updateSeq hS rfl (wpAny_pure ⟨plainId_quiet F.plain_extend_loop _, ?_⟩) (Nat.le_of_lt hsa) (by show (acc.push v).size ≤ sizeLine + 1; rw [Array.size_push]; omega)
        have cs' := pushd (gs' := gs') hi hS rv ry hlt
        refine ih { s1.setGen g gs' with heap := s1.heap.update S (Obj.mapSeq (·.push v)) } cs'.1 ?_ ⟨gs', setGen_at hgl1, ?_⟩
        · obtain ⟨mc, hns, hnn⟩ := I.nolimit
          exact ⟨mc, hns.at' fun o e => (Heap.get?_update_other _ _ hSc).trans e, hnn⟩
        · exact q2 _ (idl (v := v) I.bare hb hi hS) cs'
    · obtain ⟨a, ps, σ, H, I, _, ⟨hi, hla, acc, c, hS, rv⟩, q⟩ := hp
      exact wpAny_pure (hE ps σ H s1 h' .finished a acc c rfl I q hla hS rv hk)
section
variable {P : Program} {w : World} {A : Around} {E : Value → Shared → Prop} {s : Shared}
theorem collect_gen {ga g : Nat} {R : List Value → Shared → Prop} (hg : s.heap.IsGen ga g)
    (loop : ∀ (h' : Heap) (c : Nat), (∀ b o, s.heap.get? b = some o → h'.get? b = some o) → h'.get? s.heap.objs.size = some (lstObj #[] c) →
      codeAny (model P w) A (.builtin "list.extend.loop" ⟨[.ref s.heap.objs.size, .ref ga, .ref s.heap.objs.size], []⟩) (fun r s' => r = .ok (.ret (.ref s.heap.objs.size)) ∧ ∃ acc c, s'.heap.get? s.heap.objs.size = some (lstObj acc c) ∧ R acc.toList s') { s with heap := h' }) :
    wpAny (model P w) A (collect (.ref ga)) R E s := by
  have hga : ga < s.heap.objs.size := let ⟨_, _, _, ho, _⟩ := hg; Heap.lt_size ho
  have hSa : s.heap.objs.size ≠ ga := Nat.ne_of_gt hga
  unfold collect
  refine wpAny_bind (wpAny_runValue (codeAny_builtin F.entry_proto_collect ?_))
  rw [Around.under_plainId F.plain_proto_collect _]
  show wpAny _ A.in1 (newList [] >>= fun l => again (.builtin "list.__iadd__" ⟨[l, .ref ga], []⟩)) _ _ s
  refine wpAny_bind (wpAny_newObj_type ?_)
  refine wpAny_pure ⟨plainId_quiet F.plain_list_iadd _, codeAny_builtin F.entry_list_iadd ?_⟩
  rw [Around.under_plainId F.plain_list_iadd _]
  show wpAny _ A.in1 (Builtin.List.listExtendWith (.ref s.heap.objs.size) (.ref ga) (.ref s.heap.objs.size)) _ _ _
  have hS : (s.heap.push { cls := .type "list", data := .seq ([] : List Value).toArray }).get? s.heap.objs.size = some { cls := .type "list", data := .seq #[] } := Heap.get?_push_size _ rfl
  have up : ∀ (h : Heap) (f : Obj → Obj), (∀ b o, s.heap.get? b = some o → h.get? b = some o) → ∀ b o, s.heap.get? b = some o → (h.update s.heap.objs.size f).get? b = some o := fun h f q b o e =>
    (Heap.get?_update_other _ _ (Ne.symm (Nat.ne_of_lt (Heap.lt_size e)))).trans (q b o e)
  have k1 : ∀ b o, s.heap.get? b = some o → (s.heap.push { cls := .type "list", data := .seq ([] : List Value).toArray }).get? b = some o := fun b o e => Heap.get?_push_of_some _ e
  have gty : ∀ {h : Heap}, (∀ b o, s.heap.get? b = some o → h.get? b = some o) → h.IsGen ga g := fun {h} q => hg.keeps q
  unfold Builtin.List.listExtendWith
  refine wpAny_bind (wpAny_typeOf (Heap.IsGen.typeIs (s := { s with heap := _ }) (gty k1)) ?_)
  have h1 : Builtin.List.listSameRef (.ref s.heap.objs.size) (.ref ga) = false := by simp [Builtin.List.listSameRef, hSa]
  have h2 : (Value.type "generator" == Value.type "list") = false := by decide
  have h3 : (Value.type "generator" == Value.type "tuple") = false := by decide
  simp only [h1, h2, h3, Bool.or_false, Bool.false_eq_true, if_false]
  refine wpAny_bind (wpAny_pyIter_gen (s := { s with heap := _ }) (gty k1) ?_)
  refine wpAny_bind (wpAny_holding ?_)
  unfold Builtin.List.listLengthHint
  refine wpAny_bind (wpAny_specialOf (Heap.IsGen.typeIs (s := { s with heap := _ }) (gty k1)) F.gen_no_len ?_)
  show wpAny _ A.in1 (specialOf (Value.ref ga) (Str.ofString "__length_hint__") >>= _) _ _ _
  refine wpAny_bind (wpAny_specialOf (Heap.IsGen.typeIs (s := { s with heap := _ }) (gty k1)) F.gen_no_hint ?_)
  refine wpAny_pure ?_
  show wpAny _ A.in1 (rule "list.extend.makes-room" >>= fun _ => Builtin.List.listTouch (.ref s.heap.objs.size) >>= fun _ =>
    again (.builtin "list.extend.loop" ⟨[.ref s.heap.objs.size, .ref ga, .ref s.heap.objs.size], []⟩)) _ _ _
  refine wpAny_bind (wpAny_rule ?_)
  refine wpAny_bind ?_
  show wpAny _ A.in1 (updateSeq s.heap.objs.size (·.push .none) >>= fun _ => updateSeq s.heap.objs.size (·.pop)) _ _ _
  refine wpAny_bind (wpAny_updateSeq hS rfl ?_)
  have hS3 := Heap.get?_update_self (Obj.mapSeq (·.push Value.none)) hS rfl
  refine wpAny_updateSeq (hz := by seq_fits) hS3 rfl ?_
  have hS4 := Heap.get?_update_self (Obj.mapSeq (·.pop)) hS3 rfl
  have k4 := up _ (Obj.mapSeq (·.pop)) (up _ (Obj.mapSeq (·.push Value.none)) k1)
  refine wpAny_pure ⟨plainId_quiet F.plain_extend_loop _, codeAny_mono (loop _ _ k4 hS4) fun rr s'' hr' => ?_⟩
  obtain ⟨rfl, acc, c', hS', hi⟩ := hr'
  show wpAny _ A (load s.heap.objs.size >>= _) _ _ _
  exact wpAny_bind (wpAny_load hS' (wpAny_pure hi))
theorem call_tuple_gen {ga g : Nat} {Q : Value → Shared → Prop} (hg : s.heap.IsGen ga g)
    (loop : ∀ (h' : Heap) (c : Nat), (∀ b o, s.heap.get? b = some o → h'.get? b = some o) → h'.get? s.heap.objs.size = some (lstObj #[] c) →
      codeAny (model P w) A.in1.in1 (.builtin "list.extend.loop" ⟨[.ref s.heap.objs.size, .ref ga, .ref s.heap.objs.size], []⟩) (fun r s' => r = .ok (.ret (.ref s.heap.objs.size)) ∧ ∃ acc c, s'.heap.get? s.heap.objs.size = some (lstObj acc c) ∧ acc.size ≤ sizeLine ∧
        Q (.ref s'.heap.objs.size) { s' with heap := s'.heap.push { cls := .type "tuple", data := .seq acc } }) { s with heap := h' }) :
    wpAny (model P w) A (call (.type "tuple") [.ref ga]) Q E s := by
  refine callType_codes (Q₁ := fun obj s₁ => s₁.TypeIs obj "tuple" ∧ Q obj s₁) F.called_tuple (F.typeCall_tuple_1 _) F.entry_object_init ?_ fun obj s₁ h₁ =>
    ⟨h₁.1, F.args_object_init_2 obj _, object_init_meets F.called_tuple.init.lookup F.called_tuple.made (by decide) P w A.in1 _ s₁ ⟨h₁.1, rfl, h₁.2⟩⟩
  refine codeAny_of_tree ?_
  show wpAny _ A.in1.in1 (do checkBuiltinCall "tuple.__new__" ⟨[.type "tuple", .ref ga], []⟩; again (.builtin "tuple.__new__" ⟨[.type "tuple", .ref ga], []⟩)) _ _ s
  refine wpAny_bind (wpAny_of_eq (F.newCall_tuple_1 _) (wpAny_pure ⟨plainId_quiet F.plain_tuple_new _, codeAny_builtin F.entry_tuple_new ?_⟩))
  rw [Around.under_plainId F.plain_tuple_new _]
  have hsub := sub_tuple_self
  have hinit := init_tuple_lookup
  have hmh := madeHere_tuple
  have hTI : s.TypeIs (.ref ga) "generator" := hg.typeIs
  wp_walk using wpAny_typeOf hTI, collect_gen (A := A.in1.in1) hg
  intro h' c kp hS
  refine codeAny_mono (loop h' c kp hS) fun r s' x => ?_
  obtain ⟨e, acc, c', hS', hz, q⟩ := x
  refine ⟨e, acc, c', hS', ?_⟩
  show wpAny _ _ (Builtin.Tuple.tupleExact acc.toList.toArray >>= fun v => ret v) _ _ _
  unfold Builtin.Tuple.tupleExact
  refine wpAny_bind (wpAny_newObj_type ?_ (by show acc.toList.toArray.size ≤ sizeLine; simp only [Array.toArray_toList]; exact hz))
  refine wpAny_pure ?_
  have e : acc.toList.toArray = acc := by simp
  rw [e]
  exact ⟨⟨_, Heap.get?_push_size _ rfl, rfl⟩, q⟩
end
def tTupG (P : Addr) (wi : TI) (g : TG) (tt : TT) (te : TE) (vs : List Nat) : TE := fun σ H Q => wi σ H fun J H1 => GxR.TabG H1 P ∧ ∀ H2, GxR.Tabbed P H1 H2 →
  ∃ W : Nat → Nat → List V → Hp → Prop, (∃ m, W 0 m [] H2) ∧ turns J g tt te vs stpL (fun _ _ _ => False) (fun ys H => ∀ q, H q = none → Q (.ref q) (upd H q (.tup ys))) σ W
section
variable {X : Cx}
theorem pe_tupG {c P : Addr} {elt tg iter : Expr} {ifs : List Expr} {scope : Scope} {own : List (Str × Nat)} {p pos gpos : Pos} {wi : TI} {g : TG} {tt : TT} {te : TE} {k : Nat}
    (hr : Room k X.A) (hg : Gl X "tuple") (hm : X.mg "tuple" = none) (TB : GxR.TabB X.base X.mg c P) (hcode : X.env.code = .ref c) (hN : X.N.Nodup) (hi : PI X tg iter wi) (G : GParts X elt tg iter ifs scope own g tt te)
    (he : starEach [gG elt tg iter ifs scope gpos] X.env = (false, eval (gG elt tg iter ifs scope gpos) X.env) :: starEach [] X.env := by rfl) :
    PE X (.Call (.Name "tuple" p) [gG elt tg iter ifs scope gpos] [] pos) (tTupG P wi g tt te (own.map (·.2))) := by
  refine ⟨fun pins s σ H Q I h => ?_⟩
  refine wpAny_Call_Name_kw (ld_blt I hg hm (show bootBuiltins "tuple" = some (.type "tuple") by decide +kernel) ?_)
  refine PyProof.Rows.callWith_type1 ?_ he rfl
  rw [he]
  show wpAny _ _ (spliced ((false, eval (gG elt tg iter ifs scope gpos) X.env) :: backTo pos (starEach [] X.env))) _ _ s
  refine Calls.spliced_cons (gen_eval (R := fun J H2 => ∃ W : Nat → Nat → List V → Hp → Prop, (∃ m, W 0 m [] H2) ∧ turns J g tt te (List.map (fun q : Str × Nat => q.2) own) stpL (fun _ _ _ => False) (fun ys H => ∀ q, H q = none → Q (.ref q) (upd H q (.tup ys))) σ W)
    hr TB hcode hi G.ok G.nc G.co G.dot G.hs I h fun ga gn t it fp tn J H2 s2 code M hR => ?_)
  obtain ⟨W, ⟨m, w0⟩, tu⟩ := hR
  refine Calls.spliced_nil ?_
  have hgat : ga < t.heap.objs.size := let ⟨_, _, _, ho, _⟩ := M.isg; Heap.lt_size ho
  have nl : t.heap.NoLimit := M.inv.nolimit.keeps M.kp
  have hcl : cStatics < t.heap.objs.size := let ⟨_, hn, _⟩ := nl; hn.lt
  have ga_ : GA X (gEnv X scope s2.heap.objs.size code) (gB X.A.in1.in1.in1.in1 elt tg iter ifs scope gpos it (gEnv X scope s2.heap.objs.size code)) :=
    ga_of hr M.inv.ok.frames rfl rfl rfl rfl (by show X.A.units + 1 + 1 + 1 + 1 ≤ _; omega)
  have fok : ∀ b ∈ fp, FpOk X pins H2 b := fun b hb => (M.fok b hb).1
  refine call_tuple_gen M.isg fun h' c' kp hS => ?_
  refine ext_loop (Y := gcx X (gB X.A.in1.in1.in1.in1 elt tg iter ifs scope gpos it (gEnv X scope s2.heap.objs.size code)) s2 H2 (gEnv X scope s2.heap.objs.size code) fp) (Q := fun ys H => ∀ q, H q = none → Q (.ref q) (upd H q (.tup ys))) rfl rfl
    (show X.A.in1.in1.handled = none from hr.hd) (show X.A.in1.in1.depth < _ from hr.depth) (Nat.ne_of_gt hgat) (Nat.ne_of_gt hcl)
    (fun ps σ' H' s1 h1 x ys acc cc hx J' q hl hS1 rv hk => ⟨rfl, acc, cc, hk _ _ hS1, ?sz, ?inv⟩) (m + 1) { t with heap := h' } (M.isg.keeps kp) (nl.keeps kp) ⟨_, M.gen, ?go⟩
  case sz =>
    have e1 : ys.length = acc.toList.length := rv.length
    have e2 : acc.toList.length = acc.size := Array.length_toList ..
    omega
  case inv =>
    have I1 : Inv X pins σ H' { s1.setGen gn x with heap := h1 } := (gen_back M.inv fok J' hx).kept (t' := s1.toks) hk
    refine ⟨.ref _, _, I1.laid (t' := s1.toks) (o := .tup ys) (fun b ob z => Heap.get?_push_of_some _ z) (Nat.le_refl _) ?_, rfl, q _ (I1.hok.fresh (Nat.le_refl _))⟩
    exact ⟨hl, acc.toList, rv, by rw [Array.toArray_toList]; exact IsTup.new _ _⟩
  case go =>
    refine gen_goes (c := conL t.heap.objs.size ga gn) (t2 := ({ t with heap := h' } : Shared).setGen gn .running) M hr G.ok G.nc hN G.co (fun b hb => ?_) ga_ (G.pg _ _ _ _ _ _ ga_) (G.pt _ _ _ _ _ _ ga_) (G.pe _ _ _ _ _ _ ga_) tu w0 (Nat.lt_succ_self _) rfl (allBare_setGen (s := { t with heap := h' }) M.bare rfl) (fun b o e => kp b o e) ?_
    · rcases List.mem_cons.mp hb with e | hb
      · rw [e]; exact Nat.lt_trans M.ga hgat
      · rw [List.mem_singleton.mp hb]; exact M.ga
    · exact ⟨M.isg.keeps kp, Nat.zero_le _, #[], c', hS, .nil⟩
end
end Mw

namespace Mw
open PySem PySem.Spec PyProof.Rows L2
/-! ### data in the heap, kept -/
/-- lists, tuples, locked things stay -/
def Kd (H H' : Hp) : Prop := ∀ b o, H b = some o → ((∃ xs, o = .lst xs) ∨ (∃ xs, o = .tup xs) ∨ ∃ ob u, o = .frz ob u) → H' b = some o
theorem Kd.refl (H : Hp) : Kd H H := fun _ _ e _ => e
theorem Kd.trans {H H1 H2 : Hp} (a : Kd H H1) (b : Kd H1 H2) : Kd H H2 := fun c o e z => b c o (a c o e z) z
theorem Kd.new {H : Hp} {p : Addr} {o : HO} (n : H p = none) : Kd H (upd H p o) := fun b u e _ => by rw [upd_ne (ne_of_none e n)]; exact e
theorem Kd.over {H : Hp} {p : Addr} {o u : HO} (e : H p = some u) (h1 : ∀ xs, u ≠ .lst xs) (h2 : ∀ xs, u ≠ .tup xs) (h3 : ∀ ob y, u ≠ .frz ob y) : Kd H (upd H p o) := fun b z eb k => by
  have nb : b ≠ p := fun q => by
    rw [q, e] at eb
    cases eb
    rcases k with ⟨xs, k⟩ | ⟨xs, k⟩ | ⟨ob, y, k⟩
    · exact h1 xs k
    · exact h2 xs k
    · exact h3 ob y k
  rw [upd_ne nb]
  exact eb
theorem Same.kd {H H' : Hp} (s : Same H H') : Kd H H' := fun b o e _ => s b o e
theorem Kd.sqL {K : PySem.W.Frag} {H H' : Hp} {a : Addr} {xs : List V} (k : Kd H H') (h : SqL K H a xs) : SqL K H' a xs := by
  rcases h with (h | ⟨o, h⟩) | h
  · exact .inl (.inl (k _ _ h (.inl ⟨xs, rfl⟩)))
  · exact .inl (.inr ⟨o, k _ _ h (.inr (.inr ⟨_, _, rfl⟩))⟩)
  · exact .inr h
theorem Kd.sqT {K : PySem.W.Frag} {H H' : Hp} {a : Addr} {xs : List V} (k : Kd H H') (h : SqT K H a xs) : SqT K H' a xs := by
  rcases h with (h | ⟨o, h⟩) | h
  · exact .inl (.inl (k _ _ h (.inr (.inl ⟨xs, rfl⟩))))
  · exact .inl (.inr ⟨o, k _ _ h (.inr (.inr ⟨_, _, rfl⟩))⟩)
  · exact .inr h
mutual
theorem Kd.dp {K : PySem.W.Frag} {H H' : Hp} (k : Kd H H') : ∀ {d : PyData} {v : V}, Dp K H v d → Dp K H' v d
  | _, _, .non => .non
  | _, _, .bl b => .bl b
  | _, _, .int i => .int i
  | _, _, .str x => .str x
  | _, _, .lst h a => .lst (k.sqL h) (k.dpAll a)
  | _, _, .tup h a => .tup (k.sqT h) (k.dpAll a)
theorem Kd.dpAll {K : PySem.W.Frag} {H H' : Hp} (k : Kd H H') : ∀ {ds : List PyData} {vs : List V}, DpAll K H vs ds → DpAll K H' vs ds
  | _, _, .nil => .nil
  | _, _, .cons h t => .cons (k.dp h) (k.dpAll t)
end
/-! ### tables of code objects -/
def Tb (T : List Addr) (H : Hp) : Prop := ∀ p ∈ T, GxR.TabG H p
/-- the tables may have grown, all else is as it was -/
def Grw (T : List Addr) (H H' : Hp) : Prop := Tb T H' ∧ ∀ b, b ∉ T → H' b = H b
theorem Grw.refl {T : List Addr} {H : Hp} (t : Tb T H) : Grw T H H := ⟨t, fun _ _ => rfl⟩
theorem Grw.trans {T : List Addr} {H H1 H2 : Hp} (a : Grw T H H1) (b : Grw T H1 H2) : Grw T H H2 := ⟨b.1, fun c h => (b.2 c h).trans (a.2 c h)⟩
theorem Grw.one {T : List Addr} {P : Addr} {H H' : Hp} (t : Tb T H) (hP : P ∈ T) (g : GxR.Tabbed P H H') : Grw T H H' := by
  refine ⟨fun p hp => ?_, fun b hb => g.2 b fun e => hb (e ▸ hP)⟩
  by_cases e : p = P
  · subst e; exact g.1
  · obtain ⟨ps, h1, h2⟩ := t p hp
    exact ⟨ps, (g.2 p e).trans h1, h2⟩
theorem Grw.kd {T : List Addr} {H H' : Hp} (t : Tb T H) (g : Grw T H H') : Kd H H' := fun b o e k => by
  have nb : b ∉ T := fun hb => by
    obtain ⟨ps, h1, _⟩ := t b hb
    rw [h1] at e
    cases e
    rcases k with ⟨xs, k⟩ | ⟨xs, k⟩ | ⟨ob, y, k⟩ <;> cases k
  rw [g.2 b nb]
  exact e
theorem Grw.none {T : List Addr} {H H' : Hp} (g : Grw T H H') {b : Addr} (h : H' b = none) : H b = none := by
  by_cases hb : b ∈ T
  · obtain ⟨ps, h1, _⟩ := g.1 b hb
    rw [h1] at h
    cases h
  · rw [← g.2 b hb]; exact h
theorem Tb.new {T : List Addr} {H : Hp} {p : Addr} {o : HO} (t : Tb T H) (n : H p = none) : Tb T (upd H p o) := fun q hq => by
  obtain ⟨ps, h1, h2⟩ := t q hq
  exact ⟨ps, by rw [upd_ne (ne_of_none h1 n)]; exact h1, h2⟩
theorem Tb.over {T : List Addr} {H : Hp} {p : Addr} {o u : HO} (t : Tb T H) (e : H p = some u) (hu : ∀ ps, u ≠ .tbl ps) : Tb T (upd H p o) := fun q hq => by
  obtain ⟨ps, h1, h2⟩ := t q hq
  have nq : q ≠ p := fun z => by
    rw [z, e] at h1
    exact hu ps (Option.some.inj h1)
  exact ⟨ps, by rw [upd_ne nq]; exact h1, h2⟩
/-! ### what kind a thing is -/
def tyN : PyData → String
  | .none => "NoneType"
  | .bool _ => "bool"
  | .int _ => "int"
  | .str _ => "str"
  | .list _ => "list"
  | .tuple _ => "tuple"
  | .dict _ => "dict"
theorem tyX {K : PySem.W.Frag} {H : Hp} {x : V} {d : PyData} (h : Dp K H x d) : TyX K H x (.type (tyN d)) := by
  cases h with
  | non => exact .base .non
  | bl b => exact .base (.bl b)
  | int i => exact .base (.int i)
  | str z => exact .base (.str z)
  | lst h1 _ =>
    rcases h1 with (h1 | ⟨o, h1⟩) | ⟨o, its, n, h1, h2, _⟩
    · exact .base (.lst h1)
    · exact .base (.frz h1)
    · exact .kList h1 h2
  | tup h1 _ =>
    rcases h1 with (h1 | ⟨o, h1⟩) | ⟨o, its, n, h1, h2, _⟩
    · exact .base (.tup h1)
    · exact .fTuple h1
    · exact .kTuple h1 h2
def isI : PyData → Bool | .int _ => true | .bool _ => true | _ => false
def isB : PyData → Bool | .bool _ => true | _ => false
def isS : PyData → Bool | .str _ => true | _ => false
def isT : PyData → Bool | .tuple _ => true | _ => false
theorem kitI : ∀ d : PyData, kitB (tyN d) "int" = some (isI d)
  | .none => (by decide +kernel : kitB "NoneType" "int" = some false)
  | .bool _ => (by decide +kernel : kitB "bool" "int" = some true)
  | .int _ => (by decide +kernel : kitB "int" "int" = some true)
  | .str _ => (by decide +kernel : kitB "str" "int" = some false)
  | .list _ => (by decide +kernel : kitB "list" "int" = some false)
  | .tuple _ => (by decide +kernel : kitB "tuple" "int" = some false)
  | .dict _ => (by decide +kernel : kitB "dict" "int" = some false)
theorem kitBo : ∀ d : PyData, kitB (tyN d) "bool" = some (isB d)
  | .none => (by decide +kernel : kitB "NoneType" "bool" = some false)
  | .bool _ => (by decide +kernel : kitB "bool" "bool" = some true)
  | .int _ => (by decide +kernel : kitB "int" "bool" = some false)
  | .str _ => (by decide +kernel : kitB "str" "bool" = some false)
  | .list _ => (by decide +kernel : kitB "list" "bool" = some false)
  | .tuple _ => (by decide +kernel : kitB "tuple" "bool" = some false)
  | .dict _ => (by decide +kernel : kitB "dict" "bool" = some false)
theorem kitS : ∀ d : PyData, kitB (tyN d) "str" = some (isS d)
  | .none => (by decide +kernel : kitB "NoneType" "str" = some false)
  | .bool _ => (by decide +kernel : kitB "bool" "str" = some false)
  | .int _ => (by decide +kernel : kitB "int" "str" = some false)
  | .str _ => (by decide +kernel : kitB "str" "str" = some true)
  | .list _ => (by decide +kernel : kitB "list" "str" = some false)
  | .tuple _ => (by decide +kernel : kitB "tuple" "str" = some false)
  | .dict _ => (by decide +kernel : kitB "dict" "str" = some false)
theorem kitT : ∀ d : PyData, kitB (tyN d) "tuple" = some (isT d)
  | .none => (by decide +kernel : kitB "NoneType" "tuple" = some false)
  | .bool _ => (by decide +kernel : kitB "bool" "tuple" = some false)
  | .int _ => (by decide +kernel : kitB "int" "tuple" = some false)
  | .str _ => (by decide +kernel : kitB "str" "tuple" = some false)
  | .list _ => (by decide +kernel : kitB "list" "tuple" = some false)
  | .tuple _ => (by decide +kernel : kitB "tuple" "tuple" = some true)
  | .dict _ => (by decide +kernel : kitB "dict" "tuple" = some false)
/-- isinstance(x, T) -/
theorem isi_ok {K : PySem.W.Frag} {H : Hp} {x : V} {d : PyData} {n : String} {b : Bool} {Q : VK} (h : Dp K H x d) (k : kitB (tyN d) n = some b) (q : Q (.bl b) H) : rIsi K [x, .ty n] H Q :=
  ⟨x, .ty n, _, _, b, rfl, .ty n, tyX h, kit_ty k, q⟩
end Mw

namespace Mw
open PySem PySem.Spec PyProof.Rows L2
/-! ### all over a text's signs -/
theorem wipe_set (σ : L2.St) (i : Nat) (v : Option V) : wipe ((wipe σ [i]).set i v) [i] = wipe σ [i] := by
  show ((σ.set i none).set i v).set i none = σ.set i none
  rw [List.set_set, List.set_set]
theorem take_all_succ {l : List Nat} {j c : Nat} {pb : Nat → Bool} (h : l[j]? = some c) (a : (l.take j).all pb = true) (b : pb c = true) : (l.take (j + 1)).all pb = true := by
  rw [List.take_add_one, h, List.all_append, a]
  simpa using b
theorem all_text {x : Str} {i : Nat} {te : TE} {σ : L2.St} {H : Hp} {Q : VK} (Pv : Hp → Prop) (pb : Nat → Bool) (h0 : Pv H)
    (step : ∀ c H (R : VK), c ∈ x.cps.toList → Pv H → (∀ H', Pv H' → R (.bl (pb c)) H') → te ((wipe σ [i]).set i (some (.str ⟨#[c]⟩))) H R) (hq : ∀ H, Pv H → Q (.bl (x.cps.toList.all pb)) H) :
    ∃ W : Nat → Nat → Unit → Hp → Prop, (∃ m, W 0 m () H) ∧ turns (Its x) (gName i) tYes te [i] (stpA true) (fun _ y H => y = .bl false ∧ Q (.bl false) H) (fun _ H => Q (.bl true) H) σ W := by
  have sz : x.cps.size = x.cps.toList.length := by simp
  refine ⟨fun j m _ H => j + m = x.cps.size ∧ Pv H ∧ (x.cps.toList.take j).all pb = true, ⟨x.cps.size, by omega, h0, by simp⟩, fun j m a H w => ?_⟩
  obtain ⟨e, pv, al⟩ := w
  by_cases hj : j < x.cps.size
  · refine .inr ⟨hj, fun _ H' => Pv H' ∧ (x.cps.toList.take (j + 1)).all pb = true, fun a' H' n => ⟨m - 1, by omega, by omega, n.1, n.2⟩, fun v H' y => ?_⟩
    obtain ⟨rfl, c, hc, rfl⟩ := y
    have hl : x.cps.toList[j]? = some c := by rw [Array.getElem?_toList]; exact hc
    refine ⟨wipe_set σ i _, ?_⟩
    simp only [tYes, if_true]
    have hm : c ∈ x.cps.toList := List.mem_of_getElem? hl
    refine step c H' _ hm pv fun H2 pv2 => ?_
    cases hb : pb c with
    | true => exact .inr ⟨(), if_pos rfl, pv2, take_all_succ hl al hb⟩
    | false =>
      refine .inl ⟨if_neg (by simp), rfl, ?_⟩
      have := hq H2 pv2
      have fa : x.cps.toList.all pb = false := by
        rw [List.all_eq_false]
        exact ⟨c, hm, by simp [hb]⟩
      rw [fa] at this
      exact this
  · refine .inl ⟨show x.cps.size ≤ j by omega, ?_⟩
    have := hq H pv
    rw [List.take_of_length_le (by omega)] at al
    rw [al] at this
    exact this
end Mw

namespace Mw
open PySem PySem.Spec PyProof.Rows L2
/-! ### the feed of a law: a dict with a list of cells and three numbers -/
abbrev kC : Key := Sum.inr "cells"
abbrev kA : Key := Sum.inr "at"
abbrev kL : Key := Sum.inr "left"
abbrev kN : Key := Sum.inr "count"
structure FeedK (kvs : List (Key × V)) (C : Addr) : Prop where
  cells : valV kvs kC = some (.ref C)
  at_ : ∃ n : Int, valV kvs kA = some (.int n) ∧ 0 ≤ n
  left : ∃ n : Int, valV kvs kL = some (.int n)
  count : ∃ n : Int, valV kvs kN = some (.int n)
  len : kvs.length ≤ 100
theorem putK_len {kvs : List (Key × V)} {k : Key} {v x : V} (h : valV kvs k = some x) : (putK kvs k v).length = kvs.length := by
  unfold putK
  rw [valV_any, h]
  simp
theorem kCA : ¬ kC = kA := by decide +kernel
theorem kCL : ¬ kC = kL := by decide +kernel
theorem kCN : ¬ kC = kN := by decide +kernel
theorem kAL : ¬ kA = kL := by decide +kernel
theorem kAN : ¬ kA = kN := by decide +kernel
theorem kLN : ¬ kL = kN := by decide +kernel
theorem FeedK.putN {kvs : List (Key × V)} {C : Addr} {n : Int} (f : FeedK kvs C) : FeedK (putK kvs kN (.int n)) C := by
  obtain ⟨c, hc⟩ := f.count
  refine ⟨by rw [valV_put, if_neg kCN]; exact f.cells, by rw [valV_put, if_neg kAN]; exact f.at_, by rw [valV_put, if_neg kLN]; exact f.left, ⟨n, by rw [valV_put, if_pos rfl]⟩, by rw [putK_len hc]; exact f.len⟩
theorem FeedK.putL {kvs : List (Key × V)} {C : Addr} {n : Int} (f : FeedK kvs C) : FeedK (putK kvs kL (.int n)) C := by
  obtain ⟨c, hc⟩ := f.left
  refine ⟨by rw [valV_put, if_neg kCL]; exact f.cells, by rw [valV_put, if_neg kAL]; exact f.at_, ⟨n, by rw [valV_put, if_pos rfl]⟩, by rw [valV_put, if_neg (fun e => kLN e.symm)]; exact f.count, by rw [putK_len hc]; exact f.len⟩
theorem FeedK.putA {kvs : List (Key × V)} {C : Addr} {n : Int} (f : FeedK kvs C) (hn : 0 ≤ n) : FeedK (putK kvs kA (.int n)) C := by
  obtain ⟨c, hc, _⟩ := f.at_
  refine ⟨by rw [valV_put, if_neg kCA]; exact f.cells, ⟨n, by rw [valV_put, if_pos rfl], hn⟩, by rw [valV_put, if_neg (fun e => kAL e.symm)]; exact f.left, by rw [valV_put, if_neg (fun e => kAN e.symm)]; exact f.count, by rw [putK_len hc]; exact f.len⟩
structure Fd (F C : Addr) (ns : List Int) (H : Hp) : Prop where
  ex : ∃ kvs, H F = some (.dK kvs) ∧ FeedK kvs C
  cl : H C = some (.lst (ns.map V.int))
/-- all but F is as it was (there may be more) -/
def Ev (F : Addr) (H H' : Hp) : Prop := ∀ b o, H b = some o → b ≠ F → H' b = some o
theorem Ev.refl (F : Addr) (H : Hp) : Ev F H H := fun _ _ e _ => e
theorem Ev.trans {F : Addr} {H H1 H2 : Hp} (a : Ev F H H1) (b : Ev F H1 H2) : Ev F H H2 := fun c o e n => b c o (a c o e n) n
theorem Ev.new {F p : Addr} {H : Hp} {o : HO} (n : H p = none) : Ev F H (upd H p o) := fun b u e _ => by rw [upd_ne (ne_of_none e n)]; exact e
theorem Ev.own {F : Addr} {H : Hp} {o : HO} : Ev F H (upd H F o) := fun b u e n => by rw [upd_ne n]; exact e
theorem Ev.put {F p q : Addr} {H H' : Hp} {o : HO} (a : Ev F H H') (n : H p = none) : Ev F H (upd H' p o) := fun b u e nb => by rw [upd_ne (ne_of_none e n)]; exact a b u e nb
theorem Ev.kd {F C : Addr} {ns : List Int} {H H' : Hp} (f : Fd F C ns H) (e : Ev F H H') : Kd H H' := fun b o h k => by
  refine e b o h fun z => ?_
  obtain ⟨kvs, hF, _⟩ := f.ex
  rw [z, hF] at h
  cases h
  rcases k with ⟨xs, k⟩ | ⟨xs, k⟩ | ⟨ob, y, k⟩ <;> cases k
theorem Ev.tb {F C : Addr} {ns : List Int} {T : List Addr} {H H' : Hp} (f : Fd F C ns H) (e : Ev F H H') (t : Tb T H) : Tb T H' := fun p hp => by
  obtain ⟨ps, h1, h2⟩ := t p hp
  refine ⟨ps, e p _ h1 fun z => ?_, h2⟩
  obtain ⟨kvs, hF, _⟩ := f.ex
  rw [z, hF] at h1
  cases h1
theorem Ev.free {F C : Addr} {ns : List Int} {H H' : Hp} (f' : Fd F C ns H') (e : Ev F H H') {p : Addr} (n : H' p = none) : H p = none := by
  cases h : H p with
  | none => rfl
  | some o =>
    obtain ⟨kvs, hF, _⟩ := f'.ex
    have np : p ≠ F := fun z => by
      rw [z, hF] at n
      cases n
    rw [e p o h np] at n
    cases n
theorem Fd.new {F C p : Addr} {ns : List Int} {H : Hp} {o : HO} (f : Fd F C ns H) (n : H p = none) : Fd F C ns (upd H p o) := by
  obtain ⟨kvs, hF, k⟩ := f.ex
  exact ⟨⟨kvs, by rw [upd_ne (ne_of_none hF n)]; exact hF, k⟩, by rw [upd_ne (ne_of_none f.cl n)]; exact f.cl⟩
theorem Fd.over {F C p : Addr} {ns : List Int} {H : Hp} {o u : HO} (f : Fd F C ns H) (e : H p = some u) (n1 : p ≠ F) (n2 : p ≠ C) : Fd F C ns (upd H p o) := by
  obtain ⟨kvs, hF, k⟩ := f.ex
  exact ⟨⟨kvs, by rw [upd_ne (Ne.symm n1)]; exact hF, k⟩, by rw [upd_ne (Ne.symm n2)]; exact f.cl⟩
theorem Fd.ne {F C : Addr} {ns : List Int} {H : Hp} (f : Fd F C ns H) : C ≠ F := by
  obtain ⟨kvs, hF, _⟩ := f.ex
  exact ne_of f.cl hF (by intro z; cases z)
theorem Fd.put {F C : Addr} {ns : List Int} {H : Hp} {kvs : List (Key × V)} (f : Fd F C ns H) (k : FeedK kvs C) : Fd F C ns (upd H F (.dK kvs)) :=
  ⟨⟨kvs, upd_same, k⟩, by rw [upd_ne f.ne]; exact f.cl⟩
theorem Fd.grw {F C : Addr} {ns : List Int} {T : List Addr} {H H' : Hp} (f : Fd F C ns H) (t : Tb T H) (g : Grw T H H') : Fd F C ns H' := by
  obtain ⟨kvs, hF, k⟩ := f.ex
  have n1 : F ∉ T := fun h => by
    obtain ⟨ps, h1, _⟩ := t F h
    rw [hF] at h1
    cases h1
  have n2 : C ∉ T := fun h => by
    obtain ⟨ps, h1, _⟩ := t C h
    rw [f.cl] at h1
    cases h1
  exact ⟨⟨kvs, by rw [g.2 F n1]; exact hF, k⟩, by rw [g.2 C n2]; exact f.cl⟩
theorem dpInts {K : PySem.W.Frag} {H : Hp} : ∀ ns : List Int, DpAll K H (ns.map V.int) (ns.map PyData.int)
  | [] => .nil
  | n :: r => .cons (.int n) (dpInts r)
theorem shInts : ∀ ns : List Int, PyData.canLayAll0 (ns.map PyData.int) = true
  | [] => by simp [PyData.canLayAll0]
  | n :: r => by simp [PyData.canLayAll0, PyData.canLay0, shInts r]
theorem dpthInts : ∀ ns : List Int, PyData.depthAll (ns.map PyData.int) ≤ 1
  | [] => by simp [PyData.depthAll]
  | n :: r => by
    have h := dpthInts r
    simp [PyData.depthAll, PyData.depth]
    omega
theorem shapedInts (ns : List Int) : SeqAt.shaped (.list (ns.map PyData.int)) = true := by
  show (PyData.canLay0 (.list (ns.map PyData.int)) && decide (PyData.depth (.list (ns.map PyData.int)) ≤ 64)) = true
  rw [Bool.and_eq_true]
  refine ⟨by simp only [PyData.canLay0]; exact shInts ns, decide_eq_true ?_⟩
  have h := dpthInts ns
  simp only [PyData.depth]
  omega
theorem eqvNil (ns : List Int) : PyData.eqv (.list (ns.map PyData.int)) (.list []) = decide (ns = []) := by
  cases ns with
  | nil => simp [PyData.eqv, PyData.eqvAll]
  | cons n r => simp [PyData.eqv, PyData.eqvAll]
/-- a draw -/
def spDraw : Sp := fun vs H Q _ => ∃ (F C : Addr) (ns : List Int) (m : Int), vs = [.ref F, .int m] ∧ 0 < m ∧ m < 1073741824 ∧ ns.length ≤ 63 ∧ Fd F C ns H ∧
  ∀ (r : Int) (H' : Hp), 0 ≤ r → r < m → Fd F C ns H' → Ev F H H' → Q (.int r) H'
def spFeed (K : PySem.W.Frag) : Sp := fun vs H Q _ => ∃ (a : Addr) (ns : List Int), vs = [.ref a] ∧ SqL K H a (ns.map V.int) ∧ ns.length ≤ 63 ∧
  ∀ (F C : Addr) (H' : Hp), H F = none → Fd F C ns H' → Same H H' → Q (.ref F) H'
end Mw

namespace Mw
open PySem PySem.Spec PyProof.Rows L2
/-! ### short texts of plain signs -/
def Asc (n : Nat) (z : Str) : Prop := z.length ≤ n ∧ ∀ c ∈ z.cps.toList, c < 128
theorem Asc.mono {n m : Nat} {z : Str} (a : Asc n z) (h : n ≤ m) : Asc m z := ⟨Nat.le_trans a.1 h, a.2⟩
theorem Asc.len {n : Nat} {z : Str} (a : Asc n z) : z.cps.toList.length ≤ n := by
  have h : z.cps.toList.length = z.length := by simp [Str.length]
  rw [h]; exact a.1
theorem Asc.line {n : Nat} {z : Str} (a : Asc n z) (h : n ≤ 1000000) : z.length ≤ sizeLine := Nat.le_trans a.1 (Nat.le_trans h (by decide))
theorem asc_mk {n : Nat} {l : List Nat} (h : l.length ≤ n) (c : ∀ x ∈ l, x < 128) : Asc n ⟨l.toArray⟩ := ⟨by simpa [Str.length] using h, by simpa using c⟩
theorem asc_one {c : Nat} (h : c < 128) : Asc 1 ⟨#[c]⟩ := ⟨Nat.le_refl _, fun x hx => by
  have : x = c := by simpa using hx
  omega⟩
theorem cl_append (x y : Str) : (x ++ y).cps.toList = x.cps.toList ++ y.cps.toList := TL.tl_append x y
theorem len_append (x y : Str) : (x ++ y).length = x.length + y.length := strLen_append x y
theorem Asc.app {n m : Nat} {x y : Str} (a : Asc n x) (b : Asc m y) : Asc (n + m) (x ++ y) := by
  refine ⟨by rw [len_append]; exact Nat.add_le_add a.1 b.1, fun c hc => ?_⟩
  rw [cl_append] at hc
  rcases List.mem_append.mp hc with h | h
  · exact a.2 c h
  · exact b.2 c h
theorem Asc.cut {n : Nat} {z : Str} (a : Asc n z) (lo hi : Option Int) : Asc n (cutS z lo hi) := by
  refine asc_mk ?_ fun x hx => ?_
  · rw [List.length_take, List.length_drop]
    have := a.len
    omega
  · exact a.2 x (List.mem_of_mem_drop (List.mem_of_mem_take hx))
theorem asc_join : ∀ {ys : List Str} {k : Nat}, (∀ y ∈ ys, Asc k y) → Asc (ys.length * k) (Str.join Str.empty ys)
  | [], k, _ => ⟨Nat.zero_le _, fun c hc => by
      have : c ∈ ([] : List Nat) := hc
      cases this⟩
  | [y], k, h => by
    show Asc (1 * k) y
    rw [Nat.one_mul]
    exact h y (by simp)
  | x :: z :: r, k, h => by
    show Asc ((z :: r).length.succ * k) (x ++ Str.empty ++ Str.join Str.empty (z :: r))
    have h1 := h x (by simp)
    have h2 := asc_join (ys := z :: r) (k := k) fun y hy => h y (List.mem_cons_of_mem _ hy)
    have h3 : Asc 0 Str.empty := ⟨Nat.le_refl _, fun c hc => by
      have : c ∈ ([] : List Nat) := hc
      cases this⟩
    exact ((h1.app h3).app h2).mono (by rw [Nat.succ_mul]; omega)
theorem asc_of {s : String} {n : Nat} (h : ((Str.ofString s).length ≤ n && (Str.ofString s).cps.toList.all fun c => decide (c < 128)) = true) : Asc n (Str.ofString s) := by
  rw [Bool.and_eq_true] at h
  exact ⟨of_decide_eq_true h.1, fun c hc => of_decide_eq_true (List.all_eq_true.mp h.2 c hc)⟩
/-- a sign of a text at an open place -/
theorem sign_at {n : Nat} {z : Str} (a : Asc n z) {r : Int} (h0 : 0 ≤ r) (h1 : r < (z.length : Int)) : ∃ c, atI z.cps.toList r = some c ∧ c < 128 := by
  obtain ⟨j, rfl⟩ : ∃ j : Nat, r = (j : Int) := ⟨r.toNat, (Int.toNat_of_nonneg h0).symm⟩
  have hl : z.cps.toList.length = z.length := by simp [Str.length]
  have hj : j < z.cps.toList.length := by omega
  exact ⟨z.cps.toList[j], atI_nat (List.getElem?_eq_getElem hj), a.2 _ (List.getElem_mem hj)⟩
/-- an item of a list at an open place -/
theorem val_at {xs : List V} {r : Int} (h0 : 0 ≤ r) (h1 : r < (xs.length : Int)) : ∃ v, atI xs r = some v ∧ v ∈ xs ∧ xs[r.toNat]? = some v := by
  obtain ⟨j, rfl⟩ : ∃ j : Nat, r = (j : Int) := ⟨r.toNat, (Int.toNat_of_nonneg h0).symm⟩
  have hj : j < xs.length := by omega
  exact ⟨xs[j], atI_nat (List.getElem?_eq_getElem hj), List.getElem_mem hj, by simp [List.getElem?_eq_getElem hj]⟩
end Mw

namespace Mw
open PySem PySem.Spec PyProof.Rows L2
/-! ### t[::-1], t a tuple -/
theorem places_rev (n : Nat) : Builtin.Slice.slicePlaces ((n : Int) - 1) (-1) (-1) = n := by
  unfold Builtin.Slice.slicePlaces
  rw [if_neg (by decide)]
  by_cases h : (n : Int) - 1 > -1
  · rw [if_pos h, show (-(-1 : Int)) = 1 by decide, Int.ediv_one]
    omega
  · rw [if_neg h]
    omega
theorem fm_congr {α β : Type} {f g : α → Option β} : ∀ {l : List α}, (∀ a ∈ l, f a = g a) → l.filterMap f = l.filterMap g
  | [], _ => rfl
  | a :: l, h => by
    rw [List.filterMap_cons, List.filterMap_cons, h a (by simp), fm_congr fun b hb => h b (List.mem_cons_of_mem _ hb)]
theorem pick_rev (xs : Array Value) : ((List.range xs.size).filterMap fun (k : Nat) => xs[((xs.size : Int) - 1 + (k : Int) * (-1)).toNat]?).toArray = xs.toList.reverse.toArray := by
  have e : (List.range xs.size).filterMap (fun (k : Nat) => xs[((xs.size : Int) - 1 + (k : Int) * (-1)).toNat]?) = ((List.range xs.size).map fun k => xs.size - 1 - k).filterMap (xs[·]?) := by
    rw [List.filterMap_map]
    refine fm_congr fun k hk => ?_
    have := List.mem_range.mp hk
    have q : ((xs.size : Int) - 1 + (k : Int) * (-1)).toNat = xs.size - 1 - k := by omega
    rw [q]
    rfl
  rw [e, PySem.W.krv_range, List.filterMap_reverse, PySem.W.krv_all]
section
variable {prog : Program} {w : World} {A : Around} {E : Value → Shared → Prop} {s : Shared}
theorem applied_rev {sl : Addr} {n : Nat} {tk : Tok} {Q : Int × Int × Nat → Shared → Prop} (hs : s.heap.IsSliceOf sl .none .none (.int (-1) tk)) (h : Q ((n : Int) - 1, -1, n) s) :
    wpAny (model prog w) A (Builtin.Slice.sliceApplied (.ref sl) (pure (n : Int))) Q E s := by
  obtain ⟨os, hos, hcs, hds⟩ := id hs
  unfold Builtin.Slice.sliceApplied Builtin.Slice.sliceFields
  refine wpAny_bind (wpAny_bind (wpAny_field hos hds (x := .none) rfl (wpAny_bind (wpAny_field hos hds (x := .none) rfl (wpAny_bind (wpAny_field hos hds (x := .int (-1) tk) rfl (wpAny_pure ?_)))))))
  refine wpAny_bind (slicePart_int ?_)
  show wpAny _ _ (if ((-1 : Int) == 0) = true then _ else _) _ _ s
  rw [if_neg (by decide)]
  refine wpAny_bind (slicePart_none (wpAny_bind (slicePart_none (wpAny_bind (wpAny_pure ?_)))))
  show wpAny _ _ (pure ((n : Int) - 1, (-1 : Int), Builtin.Slice.slicePlaces ((n : Int) - 1) (-1) (-1))) _ _ s
  rw [places_rev]
  exact wpAny_pure h
theorem getItem_rev {t sl : Addr} {items : Array Value} {tk : Tok} {Q : Value → Shared → Prop} (ht : IsTup s.heap t items) (hs : s.heap.IsSliceOf sl .none .none (.int (-1) tk))
    (h : Q (.ref s.heap.objs.size) { s with heap := s.heap.push { cls := .type "tuple", data := .seq items.toList.reverse.toArray } }) (hz : items.size ≤ sizeLine) :
    wpAny (model prog w) A (getItem (.ref t) (.ref sl)) Q E s := by
  have hok : sizeOk (.seq items.toList.reverse.toArray) := by
    show items.toList.reverse.toArray.size ≤ sizeLine
    rw [List.size_toArray, List.length_reverse, Array.length_toList]
    exact hz
  obtain ⟨os, hos, hcs, hds⟩ := id hs
  unfold getItem
  try with_reducible refine wpAny_holding ?_
  first | refine wpAny_bind (wpAny_pure ?_) | skip
  refine wpAny_bind (wpAny_sequenceKey ht.typeIs (by decide) ?_)
  refine wpAny_bind (wpAny_callSpecial?_slot (name := Str.ofString "__getitem__") ht.typeIs PyProof.Rows.slot_tuple_getitem (wpAny_call_entry PyProof.Rows.slot_tuple_getitem ht.typeIs entry_tuple_getitem ?_ (args_tuple_getitem _ _)))
  show wpAny _ _ (Builtin.Tuple.tupleItemsOf (.ref t) >>= _) _ _ s
  refine wpAny_bind (tupleItemsOf_ ht ?_)
  refine wpAny_bind (wpAny_typeOf (show s.TypeIs (.ref sl) "slice" from ⟨os, hos, hcs⟩) ?_)
  rw [if_pos (by decide)]
  refine wpAny_bind (applied_rev hs ?_)
  show wpAny _ _ (if (((items.size : Int) - 1) == 0 && (-1 : Int) == 1 && items.size == items.size) = true then _ else _) _ _ s
  rw [if_neg (by
    intro q
    rw [Bool.and_eq_true, Bool.and_eq_true] at q
    exact absurd q.1.2 (by decide)), pick_rev]
  first
    | exact wpAny_bind (m := Builtin.Tuple.tupleExact _) (wpAny_newObj_type (wpAny_pure ⟨_, rfl, wpAny_pure h⟩) hok)
    | exact wpAny_bind (m := Builtin.Tuple.tupleExact _) (wpAny_newObj_type (wpAny_bind (wpAny_pure (wpAny_pure ⟨_, rfl, wpAny_pure h⟩))) hok)
    | exact wpAny_bind (wpAny_bind (m := Builtin.Tuple.tupleExact _) (wpAny_newObj_type (wpAny_pure (wpAny_pure ⟨_, rfl, wpAny_pure h⟩)) hok))
    | exact wpAny_bind (wpAny_bind (m := Builtin.Tuple.tupleExact _) (wpAny_newObj_type (wpAny_pure ⟨_, rfl, wpAny_pure h⟩) hok))
end
section
variable {X : Cx}
def tRevT (K : PySem.W.Frag) (te : TE) : TE := fun σ H Q => te σ H fun x H1 => ∃ a xs, x = .ref a ∧ SqT K H1 a xs ∧ ∀ p, H1 p = none → Q (.ref p) (upd H1 p (.tup xs.reverse))
theorem pe_revT {e : Expr} {te : TE} {k : Nat} {p1 p2 p3 pos : Pos} (he : PE X e te) : PE X (.Subscript e (.Slice none none (some (.UnaryOp .USub (.Constant (.int 1) k p1) p2)) p3) pos) (tRevT X.K te) := by
  refine ⟨fun pins s σ H Q I h => ?_⟩
  refine Subscript_ (thn (he.run pins s σ H _ I h) fun v s1 h1 => ?_)
  obtain ⟨x, H1, I1, r1, a, xs, rfl, hx, q⟩ := h1
  cases r1
  have st : PO X (some (.UnaryOp .USub (.Constant (.int 1) k p1) p2)) (tPart (tUn (rU fun i => .int (-i)) (tC (.int 1)))) := po_some (pe_un un_neg pe_int)
  refine wpAny_Slice (thn (po_none.run pins s1 σ H1 (fun o H2 => o = none ∧ H2 = H1) I1 ⟨rfl, rfl⟩) fun vl s2 h2 => ?_)
  obtain ⟨l, H2, I2, pl, rfl, rfl⟩ := h2
  refine thn (po_none.run pins s2 σ H2 (fun o H3 => o = none ∧ H3 = H2) I2 ⟨rfl, rfl⟩) fun vu s3 h3 => ?_
  obtain ⟨u, H3, I3, pu, rfl, rfl⟩ := h3
  refine thn (st.run pins s3 σ H3 (fun o H4 => o = some (-1) ∧ H4 = H3) I3 ⟨1, rfl, -1, rfl, rfl, rfl⟩) fun vs s4 h4 => ?_
  obtain ⟨o, H4, I4, ps, rfl, rfl⟩ := h4
  cases pl
  cases pu
  cases ps
  rename_i tk
  have I5 : Inv X pins σ H4 { s4 with heap := s4.heap.push { cls := .type "slice", data := .fields #[.none, .none, .int (-1) tk] } } := I4.kept (t' := s4.toks) fun b ob z => Heap.get?_push_of_some _ z
  obtain ⟨its, r, ht, hz⟩ := I5.tuple hx
  have hlen := r.length
  show wpAny (model X.prog X.w) X.A (subscriptTail e (.Slice none none (some (.UnaryOp .USub (.Constant (.int 1) k p1) p2)) p3) (.ref a) (.ref s4.heap.objs.size)) (EP X pins σ Q) X.xe { s4 with heap := s4.heap.push { cls := .type "slice", data := .fields #[.none, .none, .int (-1) tk] } }
  refine tail_any (ops := [.ref a, .ref s4.heap.objs.size]) ht.typeIs PyProof.Rows.slot_tuple_getitem.lookup ?_ (by with_unfolding_all rfl)
  refine getItem_rev ht (Heap.IsSliceOf.new _ _ _ _) ?_ (by rw [List.size_toArray]; omega)
  refine ⟨.ref _, _, I5.laid (t' := s4.toks) (o := .tup xs.reverse) (fun b ob z => Heap.get?_push_of_some _ z) (Nat.le_refl _) ?_, rfl, q _ (I5.hok.fresh (Nat.le_refl _))⟩
  exact ⟨by rw [List.length_reverse]; exact hz, _, r.reverse, IsTup.new _ _⟩
end
/-! ### data that can be shown -/
mutual
def wt : PyData → Nat
  | .none => 5
  | .bool _ => 5
  | .int _ => 1921
  | .str x => 10 * x.length + 2
  | .list xs => wtAll xs + 3
  | .tuple xs => wtAll xs + 3
  | .dict _ => 0
def wtAll : List PyData → Nat
  | [] => 0
  | x :: xs => wt x + 2 + wtAll xs
end
mutual
def fine : PyData → Bool
  | .none => true
  | .bool _ => true
  | .int i => decide (i.natAbs.log2 < 1920)
  | .str x => x.cps.toList.all fun c => decide (c < 128)
  | .list xs => fineAll xs
  | .tuple xs => fineAll xs
  | .dict _ => false
def fineAll : List PyData → Bool
  | [] => true
  | x :: xs => fine x && fineAll xs
end
theorem strOk_of {x : Str} (h : (x.cps.toList.all fun c => decide (c < 128)) = true) : PyData.strOk x = true := by
  unfold PyData.strOk
  rw [Array.all_toList.symm, List.all_eq_true]
  intro c hc
  have := of_decide_eq_true (List.all_eq_true.mp h c hc)
  exact decide_eq_true (by omega)
mutual
theorem fine_show : ∀ {d : PyData}, fine d = true → d.showable = true ∧ d.canLay0 = true ∧ d.shown.length ≤ wt d
  | .none, _ => ⟨rfl, rfl, by simp only [PyData.shown, wt]; decide +kernel⟩
  | .bool true, _ => ⟨rfl, rfl, by simp only [PyData.shown, wt]; decide +kernel⟩
  | .bool false, _ => ⟨rfl, rfl, by simp only [PyData.shown, wt]; decide +kernel⟩
  | .int i, h => by
    have h' : i.natAbs.log2 < 1920 := by simpa [fine] using h
    exact ⟨by simpa [PyData.showable] using h', rfl, by simp only [PyData.shown, wt]; exact int_text_len_1921 h'⟩
  | .str x, h => by
    have h' : (x.cps.toList.all fun c => decide (c < 128)) = true := by simpa [fine] using h
    refine ⟨rfl, by simp only [PyData.canLay0]; exact strOk_of h', ?_⟩
    simp only [PyData.shown, wt]
    refine StrLaws.reprText_len x fun c hc => ?_
    have := of_decide_eq_true (List.all_eq_true.mp h' c hc)
    omega
  | .list xs, h => by
    have h' : fineAll xs = true := by simpa [fine] using h
    obtain ⟨a, b, c, e⟩ := fine_showAll h'
    refine ⟨by simp only [PyData.showable]; exact a, by simp only [PyData.canLay0]; exact b, ?_⟩
    simp only [PyData.shown, wt]
    have := listText_len_le (PyData.shownAll xs)
    omega
  | .tuple xs, h => by
    have h' : fineAll xs = true := by simpa [fine] using h
    obtain ⟨a, b, c, e⟩ := fine_showAll h'
    refine ⟨by simp only [PyData.showable]; exact a, by simp only [PyData.canLay0]; exact b, ?_⟩
    simp only [PyData.shown, wt]
    have := tupleText_len_le (PyData.shownAll xs)
    omega
  | .dict _, h => by simp [fine] at h
theorem fine_showAll : ∀ {xs : List PyData}, fineAll xs = true → PyData.showableAll xs = true ∧ PyData.canLayAll0 xs = true ∧ ((PyData.shownAll xs).map (·.length)).sum + 2 * (PyData.shownAll xs).length ≤ wtAll xs ∧ (PyData.shownAll xs).length = xs.length
  | [], _ => ⟨rfl, rfl, by simp [PyData.shownAll, wtAll], rfl⟩
  | x :: xs, h => by
    have h' : fine x = true ∧ fineAll xs = true := by simpa [fineAll] using h
    obtain ⟨a, b, c⟩ := fine_show h'.1
    obtain ⟨a2, b2, c2, e2⟩ := fine_showAll h'.2
    refine ⟨by simp only [PyData.showableAll, a, a2, Bool.and_self], by simp only [PyData.canLayAll0, b, b2, Bool.and_self], ?_, by simp only [PyData.shownAll, List.length_cons, e2]⟩
    simp only [PyData.shownAll, wtAll, List.map_cons, List.sum_cons, List.length_cons]
    omega
end
/-- a thing that can be shown -/
structure Good (d : PyData) : Prop where
  fine : fine d = true
  wt : wt d ≤ 100000
  dp : d.depth ≤ 24
theorem Good.repr {K : PySem.W.Frag} {H : Hp} {x : V} {d : PyData} {Q : VK} (g : Good d) (h : Dp K H x d) (q : Q (.str d.shown) H) : rRepr K [x] H Q := by
  obtain ⟨a, b, c⟩ := fine_show g.fine
  exact ⟨x, d, rfl, h, a, b, Nat.le_trans g.dp (by decide), Nat.le_trans c (Nat.le_trans g.wt (by decide)), q⟩
end Mw

namespace Mw
open PySem PySem.Spec PyProof.Rows L2
/-! ### names -/
abbrev Nm := Int × Str
def nmK (n : Nm) : List Key := [.inl n.1, .inr n.2]
def nmV (n : Nm) : List V := [.int n.1, .str n.2]
def nmD (n : Nm) : PyData := .tuple [.int n.1, .str n.2]
theorem nmKV (n : Nm) : (nmK n).map kV = nmV n := rfl
theorem nmK_inj {n m : Nm} (h : nmK n = nmK m) : n = m := by
  have h1 : Sum.inl n.1 = (Sum.inl m.1 : Key) ∧ [(Sum.inr n.2 : Key)] = [Sum.inr m.2] := List.cons.inj h
  have h2 := List.cons.inj h1.2
  exact Prod.ext (Sum.inl.inj h1.1) (Sum.inr.inj h2.1)
/-- an address of a name -/
def NmA (H : Hp) (n : Nm) (b : Addr) : Prop := H b = some (.tup (nmV n))
theorem NmA.dp {K : PySem.W.Frag} {H : Hp} {n : Nm} {b : Addr} (h : NmA H n b) : Dp K H (.ref b) (nmD n) := .tup (.inl (.inl h)) (.cons (.int _) (.cons (.str _) .nil))
theorem alike_nm (a b : Nm) : PySem.W.alike (nmD a) (nmD b) = true := by simp [nmD, PySem.W.alike, PySem.W.alikeAll]
def srt (ns : List Nm) : List Nm := ns.mergeSort (PySem.W.dataLe false nmD)
theorem srt_perm (ns : List Nm) : (srt ns).Perm ns := List.mergeSort_perm ..
theorem srt_len (ns : List Nm) : (srt ns).length = ns.length := (srt_perm ns).length_eq
theorem mem_srt {ns : List Nm} {n : Nm} : n ∈ srt ns ↔ n ∈ ns := (srt_perm ns).mem_iff
abbrev Nms (H : Hp) (ns : List Nm) (bs : List Addr) : Prop := Paired (NmA H) ns bs
section
variable {X : Cx}
/-! ### sorted(d), d a dict of names -/
def rSortT : List V → Hp → VK → Prop := fun xs H Q => ∃ (d : Addr) (kvs : List (List Key × V)) (ns : List Nm), xs = [.ref d] ∧ H d = some (.dT kvs) ∧ kvs.map (·.1) = ns.map nmK ∧
  ∀ p bs, H p = none → Nms H (srt ns) bs → Q (.ref p) (upd H p (.lst (bs.map V.ref)))
theorem each_paired {H : Hp} : ∀ {out : List Value} {ns : List Nm}, PySem.W.EachIs (fun v n => ∃ b, v = Value.ref b ∧ NmA H n b) out ns → ∃ bs : List Addr, out = bs.map Value.ref ∧ Nms H ns bs
  | _, _, .nil => ⟨[], rfl, .nil⟩
  | _, _, .cons ⟨b, e, h⟩ t => by
    obtain ⟨bs, e2, h2⟩ := each_paired t
    exact ⟨b :: bs, by rw [e, e2]; rfl, .cons h h2⟩
theorem each_keys {H : Hp} : ∀ {kvs : List (List Key × V)} {ks : List (List Key × Addr × Value)} {ns : List Nm}, KT H kvs ks → kvs.map (·.1) = ns.map nmK → PySem.W.EachIs (fun v n => ∃ b, v = Value.ref b ∧ NmA H n b) (ks.map fun x => Value.ref x.2.1) ns
  | _, _, [], .nil, _ => .nil
  | _, _, n :: ns, .cons h t, e => by
    have e1 := List.cons.inj e
    refine .cons ⟨_, rfl, ?_⟩ (each_keys t e1.2)
    have h2 := h.2.1
    show H _ = some (.tup (nmV n))
    rw [← nmKV, ← e1.1]
    exact h2
  | _, _, n :: ns, .nil, e => by cases e
  | _, _, [], .cons h t, e => by cases e
/-- the keys of a dict, gathered; the heap has grown -/
theorem keys_of {prog : Program} {w : World} {A : Around} {E : Value → Shared → Prop} {s : Shared} {d : Addr} {o : Obj} {es : Array DictEntry} {ep : Nat} {R : List Value → Shared → Prop} (lo : (d == sysModules) = false) (hx : o.ExactDict) (hdt : o.data = .dict es ep)
    (hh : A.handled = none) (ho : s.heap.get? d = some o) (hn : es.size ≤ sizeLine)
    (q : ∀ (h' : Heap) (tk : Nat) (acc : Array Value), (∀ b o, s.heap.get? b = some o → h'.get? b = some o) → s.heap.objs.size ≤ h'.objs.size → ItemsOf (fun i v => ∃ en : DictEntry, es[i]? = some en ∧ v = en.key) acc es.size → R acc.toList { s with heap := h', toks := tk }) :
    wpAny (model prog w) A (collect (.ref d)) R E s := by
  have hd : d < s.heap.objs.size := Heap.lt_size ho
  let S := s.heap.objs.size
  let Fin (r : Result) (s' : Shared) : Prop := r = .ok (.ret (.ref S)) ∧ ∃ acc c, s'.heap.get? S = some (lstObj acc c) ∧ R acc.toList s'
  have main : codeAny (model prog w) A (.builtin "list.__iadd__" ⟨[.ref S, .ref d], []⟩) Fin { s with heap := s.heap.push { cls := .type "list", data := .seq #[] } } := by
    refine codeAny_builtin F.entry_list_iadd ?_
    rw [Around.under_plainId F.plain_list_iadd _]
    refine PySem.W.kdl_extend (kdl_raw lo hx hdt) hh (Heap.get?_push_of_some _ ho) S (Nat.ne_of_gt hd) (Nat.ne_of_gt hd) (.ref S) 0 (Heap.get?_push_size _ rfl) (fun h' tk acc c kp hS it => ⟨rfl, acc, c, hS, ?_⟩) hn
    refine q h' tk acc (fun b ob e => kp b ob (Nat.ne_of_lt (Heap.lt_size e)) (Heap.get?_push_of_some _ e)) ?_ it
    exact Nat.le_of_lt (Heap.lt_size hS)
  unfold collect
  refine wpAny_bind (wpAny_runValue (codeAny_builtin F.entry_proto_collect ?_))
  rw [Around.under_plainId F.plain_proto_collect _]
  refine wpAny_bind (wpAny_newObj_type (wpAny_pure ⟨plainId_quiet F.plain_list_iadd _, codeAny_mono main fun r s' x => ?_⟩))
  obtain ⟨rfl, acc, c, hS, hr⟩ := x
  exact wpAny_bind (wpAny_load hS (wpAny_pure hr))
theorem call_sortT (hc : X.calm = true) (hu : X.A.units + 16 < cLine) : CallR X (.builtin "sorted") rSortT := by
  intro pins s σ H xs us Q I r h
  obtain ⟨d, kvs, ns, rfl, hd, hk, q⟩ := h
  obtain ⟨u, rfl, rx⟩ := r.one
  cases rx
  obtain ⟨z, hs, ks, pr, o, es, ep, ho, hx, hdt, he, hn⟩ := (show ObjOk X.prog X.w H s.heap d (.dT kvs) from I.hok d _ hd)
  have l1 : es.size = ks.length := size_of_entries he
  have l2 : kvs.length = ks.length := Paired.length pr
  refine PySem.Calls.call_function_entry kind_sorted plain_sorted entry_sorted (args_sorted1 _) ?_
  unfold Builtin.«sorted»
  refine wpAny_bind (m := checkCount "sorted" 1 1 _) (wpAny_pure ?_)
  refine wpAny_bind (keys_of (A := X.A.in1) hs hx hdt (I.ok.hd hc) ho (by omega) fun h' tk acc' kp hsz it => ?_)
  have ea : acc'.toList = ks.map fun x => Value.ref x.2.1 := by
    have hl : acc'.toList.length = ks.length := by rw [Array.length_toList, it.1]; exact l1
    apply List.ext_getElem?
    intro j
    rw [List.getElem?_map]
    cases hj : acc'.toList[j]? with
    | none =>
      have h1 := List.getElem?_eq_none_iff.mp hj
      rw [List.getElem?_eq_none (by omega)]
      all_goals rfl
    | some v =>
      obtain ⟨en, hen, hv⟩ := it.2 j v (by rw [← Array.getElem?_toList]; exact hj)
      have qe := entry_at he j
      rw [hen] at qe
      cases hb : ks[j]? with
      | none =>
        rw [hb] at qe
        exact nomatch (show some en = none from qe)
      | some b =>
        rw [hb] at qe
        have e2 : en = entryOfKey (tupleKind (mixKind X.prog X.w)) b := Option.some.inj qe
        rw [hv, e2]
        all_goals rfl
  have hlen : acc'.toList.length ≤ sizeLine := by rw [ea, List.length_map]; omega
  have E0 : PySem.W.EachIs (fun v n => ∃ b, v = Value.ref b ∧ NmA H n b) acc'.toList ns := by rw [ea]; exact each_keys pr hk
  have I1 : Inv X pins σ H { s with heap := h'.push { cls := .type "list", data := .seq acc'.toList.toArray }, toks := tk } := I.kept fun b ob e => Heap.get?_push_of_some _ (kp b ob e)
  refine wpAny_bind (wpAny_newList ?_ hlen)
  have hob : (h'.push { cls := .type "list", data := .seq acc'.toList.toArray }).get? h'.objs.size = some (seqObj "list" acc'.toList.toArray 0) := Heap.get?_push_size _ rfl
  have ld : ∀ b : Nm, (nmD b).depth = 1 := fun b => by simp [nmD, PyData.depth, PyData.depthAll]
  refine wpAny_bind (wpAny_holding (wpAny_mono (PySem.W.list_sort_data (A := X.A.in1) (s := { s with heap := h'.push { cls := .type "list", data := .seq acc'.toList.toArray }, toks := tk }) (enc := nmD) (vs := acc'.toList) (bs := ns)
    (R := fun v n => ∃ b, v = Value.ref b ∧ NmA H n b) (Q := fun _ s' => EP X pins σ Q (.ref h'.objs.size) s') (E := fun _ _ => False) hob E0 ?_ (PySem.W.AllAlike.of alike_nm) (PySem.W.Sortable.tuples fun b => ⟨_, _, rfl⟩) (by rw [← E0.length]; exact hlen) (fun b _ => by rw [ld b]; show X.A.units + 1 + 1 + 1 < cLine; omega) ?_)
    (fun _ s' x => wpAny_pure ⟨_, rfl, x⟩) (fun _ _ e => e.elim)))
  · -- the names read off tuples
    refine E0.mono fun v n hv => ?_
    obtain ⟨b, rfl, hb⟩ := hv
    obtain ⟨_, its, rv, ot, hot, hct, nt, hdt2⟩ := (show ObjOk X.prog X.w H _ b (.tup (nmV n)) from I1.hok b _ hb)
    cases rv with
    | cons r1 r2 =>
      cases r2 with
      | cons r3 r4 =>
        cases r4
        obtain ⟨t1, rfl⟩ := r1
        obtain ⟨t2, rfl⟩ := r3
        refine ⟨[] ++ ([] ++ []), .tuple hot hct hdt2 (.cons (.int _ _) (.cons (.str _ _) .nil)), by simp⟩
  · intro out lo eo
    obtain ⟨bs, e1, e2⟩ := each_paired eo
    obtain ⟨ep', hat⟩ := sortedHeap_at (out := out.toArray) hob
    refine ⟨.ref h'.objs.size, _, I.laid (t' := tk) (a := h'.objs.size) (o := .lst (bs.map V.ref)) (fun b ob e => ?_) ?_ ?_, rfl, q _ bs (I.hok.fresh ?_) e2⟩
    · have hlt := Heap.lt_size (kp b ob e)
      rw [sortedHeap_old (Nat.ne_of_lt hlt) (by rw [size_push']; exact Nat.lt_succ_of_lt hlt)]
      exact Heap.get?_push_of_some _ (kp b ob e)
    · exact hsz
    · refine ⟨?_, bs.map Value.ref, ep', vals_refs bs, by rw [← e1]; exact hat⟩
      have e3 : out.length = bs.length := by rw [e1, List.length_map]
      rw [List.length_map, ← e3, lo, ← E0.length]
      exact hlen
    · exact hsz
end
end Mw

namespace Mw
open PySem PySem.Spec PyProof.Rows L2
section
variable {X : Cx}
/-! ### <=, < of names -/
def rLeN (K : PySem.W.Frag) : R2 := fun x y H Q => ∃ n m : Nm, Dp K H x (nmD n) ∧ Dp K H y (nmD m) ∧ Q (.bl (!PySem.W.dataLt (nmD m) (nmD n))) H
theorem op_leN (hu : X.A.units + 64 < cLine) : OpR X (compareOp .LtE) (rLeN X.K) := by
  intro pins s σ H x y v u Q I rx ry h
  obtain ⟨n, m, hn, hm, q⟩ := h
  obtain ⟨as, ra⟩ := Dp.reads I _ x v hn rx
  obtain ⟨bs, rb⟩ := Dp.reads I _ y u hm ry
  refine PySem.W.le_data ra rb (alike_nm n m) (fun z => by cases z) ?_ ⟨.bl _, H, I, rfl, q⟩
  have : (nmD n).depth = 1 := by simp [nmD, PyData.depth, PyData.depthAll]
  omega
/-! ### max(ns, default=d), of ints -/
def maxZ (d : Int) : List Int → Int
  | [] => d
  | n :: r => r.foldl max n
def rMaxDef (K : PySem.W.Frag) : List V → List V → Hp → VK → Prop := fun vs zs H Q => ∃ (a : Addr) (ns : List Int) (d : Int), vs = [.ref a] ∧ zs = [.int d] ∧ SqL K H a (ns.map V.int) ∧ Q (.int (maxZ d ns)) H
theorem alikeInts (ns : List Int) : PySem.W.AlikeAll (ns.map PyData.int) := by
  refine ⟨fun d hd d' hd' => ?_, fun d hd => ?_⟩
  · obtain ⟨i, _, rfl⟩ := List.mem_map.mp hd
    obtain ⟨j, _, rfl⟩ := List.mem_map.mp hd'
    simp [PySem.W.alike]
  · obtain ⟨i, _, rfl⟩ := List.mem_map.mp hd
    intro z
    cases z
theorem call_maxDef (hc : X.calm = true) (hu : X.A.units + 64 < cLine) : CallRK X (.builtin "max") [Str.ofString "default"] (rMaxDef X.K) := by
  intro pins s σ H vs zs us ws Q I r rz h
  obtain ⟨a, ns, d, rfl, rfl, hs, q⟩ := h
  obtain rfl := Vals.ref1 r
  obtain ⟨w1, rfl, t1, rfl⟩ := vals1 rz
  obtain ⟨its, rv, hl, _⟩ := I.list hs
  obtain ⟨as, rs⟩ := Dp.readsAll I (ns.map PyData.int) (ns.map V.int) its (dpInts ns) rv
  have hd0 : PyData.depthAll (ns.map PyData.int) = 0 := PySem.W.depth_ints ns
  refine PySem.W.max_list_default (vs := its.toArray) (I.ok.hd hc) hl.isList (by simpa using rs) (alikeInts ns) (by rw [hd0]; omega) (fun e h' tk kp => ?_) fun y ys i v h' tk bs e hi hr kp => ?_
  · have : ns = [] := List.map_eq_nil_iff.mp e
    subst this
    exact ⟨.int d, H, I.kept kp, ⟨_, rfl⟩, q⟩
  · cases ns with
    | nil => cases e
    | cons n r =>
      have e1 := List.cons.inj e
      rw [← e1.1, ← e1.2, PySem.W.maxD_ints] at hr
      cases hr with
      | int _ t => exact ⟨.int _, H, I.kept kp, ⟨t, rfl⟩, q⟩
/-! ### text * number -/
def repS (z : Str) (n : Nat) : Str := ⟨(List.replicate n z.cps.toList).flatten.toArray⟩
theorem fold_flat : ∀ (l : List (Array Nat)) (a : Array Nat), (l.foldl (· ++ ·) a).toList = a.toList ++ (l.map (·.toList)).flatten
  | [], a => by simp
  | x :: l, a => by rw [List.foldl_cons, fold_flat l]; simp
def rMulS : R2 := fun x y H Q => ∃ (z : Str) (n : Int), x = .str z ∧ y = .int n ∧ 0 ≤ n ∧ n ≤ 1000 ∧ z.length ≤ 1000 ∧ Q (.str (repS z n.toNat)) H
theorem op_mulS : OpR X (binaryOp .Mult) rMulS := by
  intro pins s σ H x y v u Q I rx ry h
  obtain ⟨z, n, rfl, rfl, n0, n1, hz, q⟩ := h
  obtain ⟨t, rfl⟩ := rx
  obtain ⟨t', rfl⟩ := ry
  have hr : (decide (n < -(2 ^ 63 : Int)) || decide (n ≥ 2 ^ 63)) = false := by
    rw [decide_eq_false (by omega), decide_eq_false (by omega)]; rfl
  have hm : z.length * n.toNat ≤ 1000000 := by
    have : n.toNat ≤ 1000 := by omega
    exact Nat.le_trans (Nat.mul_le_mul hz this) (by decide)
  refine PySem.P.mul_str hr (fun h1 _ => ?_) (fun _ _ => ?_) ?_
  · have h2 : (9223372036854775 : Int) ≤ (2 ^ 63 - 1) / n := by
      refine Int.le_ediv_of_mul_le (by omega) ?_
      have : (9223372036854775 : Int) * n ≤ 9223372036854775 * 1000 := Int.mul_le_mul_of_nonneg_left n1 (by decide)
      omega
    omega
  · unfold Builtin.Str.tooLong
    first
      | (rw [decide_eq_false]; omega)
      | (simp; omega)
      | (have := sizeLine_eq; simp only [decide_eq_false_iff_not]; omega)
  · by_cases h1 : n < 1
    · rw [if_pos h1]
      have e : repS z n.toNat = Str.empty := by
        have : n.toNat = 0 := by omega
        rw [this]; rfl
      rw [e] at q
      exact ⟨by decide, ⟨.str _, H, I.tok _, ⟨_, rfl⟩, q⟩⟩
    · rw [if_neg h1]
      cases h2 : (n == 1 || z.length == 0) with
      | true =>
        have e : repS z n.toNat = z := by
          rw [Bool.or_eq_true] at h2
          rcases h2 with h2 | h2
          · have : n = 1 := by simpa using h2
            subst this
            show (⟨(List.replicate 1 z.cps.toList).flatten.toArray⟩ : Str) = z
            simp
          · have hz0 : z.length = 0 := by simpa using h2
            have hz1 : z.cps = #[] := Array.eq_empty_of_size_eq_zero hz0
            have hz2 : z = ⟨#[]⟩ := by cases z; simp at hz1; subst hz1; rfl
            subst hz2
            simp [repS]
        rw [e] at q
        exact ⟨.str _, H, I, ⟨_, rfl⟩, q⟩
      | false =>
        have e : repS z n.toNat = ⟨(List.replicate n.toNat z.cps).foldl (· ++ ·) #[]⟩ := by
          unfold repS
          have := fold_flat (List.replicate n.toNat z.cps) #[]
          rw [List.map_replicate] at this
          simp only [List.nil_append] at this
          rw [← this, Array.toArray_toList]
        rw [e] at q
        refine ⟨?_, ⟨.str _, H, I.tok _, ⟨_, rfl⟩, q⟩⟩
        rw [← e]
        show (repS z n.toNat).length ≤ sizeLine
        have : (repS z n.toNat).length = z.length * n.toNat := by
          simp [repS, Str.length, Nat.mul_comm]
        rw [this, sizeLine_eq]
        omega
/-! ### l[::s], s 1 or -1 -/
def tStp (K : PySem.W.Frag) (te ts : TE) : TE := fun σ H Q => te σ H fun x H1 => tPart ts σ H1 fun o H2 => ∃ (a : Addr) (xs : List V) (st : Int), o = some st ∧ x = .ref a ∧ (st = 1 ∨ st = -1) ∧ SqL K H2 a xs ∧
  ∀ p, H2 p = none → Q (.ref p) (upd H2 p (.lst (if st = 1 then xs else xs.reverse)))
theorem pick_one (its : List Value) : slicePick its.toArray none none (some 1) = its.toArray := by
  have h : slicePick its.toArray none none (some 1) = slicePick its.toArray none none none := rfl
  rw [h, slicePick_cut, HT.sIx_none, HT.sIx_none]
  simp
theorem pe_stp {e st : Expr} {te ts : TE} {p3 pos : Pos} (he : PE X e te) (hs : PE X st ts) :
    PE X (.Subscript e (.Slice none none (some st) p3) pos) (tStp X.K te ts) := by
  refine ⟨fun pins s σ H Q I h => ?_⟩
  refine Subscript_ (thn (he.run pins s σ H _ I h) fun v s1 h1 => ?_)
  obtain ⟨x, H1, I1, r1, h1⟩ := h1
  refine wpAny_Slice (thn (po_none.run pins s1 σ H1 (fun o H2 => o = none ∧ H2 = H1) I1 ⟨rfl, rfl⟩) fun vl s2 h2 => ?_)
  obtain ⟨l, H2, I2, pl, rfl, rfl⟩ := h2
  refine thn (po_none.run pins s2 σ H2 (fun o H3 => o = none ∧ H3 = H2) I2 ⟨rfl, rfl⟩) fun vu s3 h3 => ?_
  obtain ⟨u, H3, I3, pu, rfl, rfl⟩ := h3
  refine thn ((po_some hs).run pins s3 σ H3 _ I3 h1) fun vs s4 h4 => ?_
  obtain ⟨o, H4, I4, ps, a, xs, stp, rfl, rfl, hst, hx, q⟩ := h4
  cases r1
  cases pl
  cases pu
  cases ps
  rename_i tk
  have I5 : Inv X pins σ H4 { s4 with heap := s4.heap.push { cls := .type "slice", data := .fields #[.none, .none, .int stp tk] } } := I4.kept (t' := s4.toks) fun b ob z => Heap.get?_push_of_some _ z
  obtain ⟨its, r, ht, hz⟩ := I5.list hx
  have hlen := r.length
  show wpAny (model X.prog X.w) X.A (subscriptTail e (.Slice none none (some st) p3) (.ref a) (.ref s4.heap.objs.size)) (EP X pins σ Q) X.xe { s4 with heap := s4.heap.push { cls := .type "slice", data := .fields #[.none, .none, .int stp tk] } }
  refine tail_any (ops := [.ref a, .ref s4.heap.objs.size]) ht.isList.typeIs slot_list_getitem.lookup ?_ (by with_unfolding_all rfl)
  refine wpAny_getItem_list_slice ht.isList (Heap.IsSliceOf.new _ _ _ _) .none .none (.int _ _) (by rcases hst with e | e <;> rw [e] <;> decide) ?_ (by rw [List.size_toArray]; omega)
  refine ⟨.ref _, _, I5.laid (t' := s4.toks) (o := .lst (if stp = 1 then xs else xs.reverse)) (fun b ob z => Heap.get?_push_of_some _ z) (Nat.le_refl _) ?_, rfl, q _ (I5.hok.fresh (Nat.le_refl _))⟩
  rcases hst with e | e
  · subst e
    rw [pick_one]
    exact ⟨hz, its, 0, r, Heap.get?_push_size _ rfl⟩
  · subst e
    rw [PySem.W.krv_pick]
    exact ⟨by show xs.reverse.length ≤ _; rw [List.length_reverse]; exact hz, its.reverse, 0, r.reverse, Heap.get?_push_size _ rfl⟩
end
end Mw

namespace Mw
open PySem PySem.Spec PyProof.Rows L2
/-! ### all but some is as it was; tuples stay -/
structure Evs (S : List Addr) (H H' : Hp) : Prop where
  ev : ∀ b o, H b = some o → b ∉ S → H' b = some o
  tp : ∀ b xs, H b = some (.tup xs) → H' b = some (.tup xs)
  fz : ∀ b ob u, H b = some (.frz ob u) → H' b = some (.frz ob u)
  th : ∀ b, H' b = none → H b = none
theorem Evs.refl (S : List Addr) (H : Hp) : Evs S H H := ⟨fun _ _ e _ => e, fun _ _ e => e, fun _ _ _ e => e, fun _ e => e⟩
theorem Evs.trans {S : List Addr} {H H1 H2 : Hp} (a : Evs S H H1) (b : Evs S H1 H2) : Evs S H H2 :=
  ⟨fun c o e n => b.ev c o (a.ev c o e n) n, fun c xs e => b.tp c xs (a.tp c xs e), fun c o u e => b.fz c o u (a.fz c o u e), fun c e => a.th c (b.th c e)⟩
theorem Evs.mono {S T : List Addr} {H H' : Hp} (a : Evs S H H') (h : ∀ b ∈ S, b ∈ T) : Evs T H H' := ⟨fun c o e n => a.ev c o e fun z => n (h c z), a.tp, a.fz, a.th⟩
theorem updNone {H : Hp} {p b : Addr} {o : HO} (h : upd H p o b = none) : H b = none ∧ b ≠ p := by
  by_cases e : b = p
  · rw [e, upd_same] at h; cases h
  · rw [upd_ne e] at h; exact ⟨h, e⟩
theorem Evs.new {S : List Addr} {H : Hp} {p : Addr} {o : HO} (n : H p = none) : Evs S H (upd H p o) := by
  have k : ∀ b u, H b = some u → upd H p o b = some u := fun b u e => by rw [upd_ne (ne_of_none e n)]; exact e
  exact ⟨fun b u e _ => k b u e, fun b xs e => k b _ e, fun b ob u e => k b _ e, fun b e => (updNone e).1⟩
/-- over an old one -/
theorem Evs.own {S : List Addr} {H : Hp} {p : Addr} {o u : HO} (hp : p ∈ S) (e : H p = some u) (h2 : ∀ xs, u ≠ .tup xs) (h3 : ∀ ob y, u ≠ .frz ob y) : Evs S H (upd H p o) := by
  refine ⟨fun b z eb nb => ?_, fun b xs eb => ?_, fun b ob y eb => ?_, fun b eb => (updNone eb).1⟩
  · rw [upd_ne (fun q : b = p => nb (by rw [q]; exact hp))]; exact eb
  · rw [upd_ne]
    · exact eb
    · intro q; rw [q, e] at eb; cases eb; exact h2 xs rfl
  · rw [upd_ne]
    · exact eb
    · intro q; rw [q, e] at eb; cases eb; exact h3 ob y rfl
/-- over one that is new since -/
theorem Evs.put {S : List Addr} {H H' : Hp} {p : Addr} {o : HO} (a : Evs S H H') (n : H p = none) : Evs S H (upd H' p o) := by
  have k : ∀ b u, H b = some u → b ≠ p := fun b u e => ne_of_none e n
  exact ⟨fun b u e nb => by rw [upd_ne (k b u e)]; exact a.ev b u e nb, fun b xs e => by rw [upd_ne (k b _ e)]; exact a.tp b xs e, fun b ob u e => by rw [upd_ne (k b _ e)]; exact a.fz b ob u e, fun b e => a.th b (updNone e).1⟩
theorem Ev.evs {F C : Addr} {ns : List Int} {H H' : Hp} (f : Fd F C ns H) (f' : Fd F C ns H') (e : Ev F H H') : Evs [F] H H' := by
  obtain ⟨kvs, hF, _⟩ := f.ex
  refine ⟨fun b o h n => e b o h fun z => n (by simp [z]), fun b xs h => e b _ h fun z => ?_, fun b ob u h => e b _ h fun z => ?_, fun b h => Ev.free f' e h⟩
  · rw [z, hF] at h; cases h
  · rw [z, hF] at h; cases h
theorem Fd.evs {F C : Addr} {ns : List Int} {S : List Addr} {H H' : Hp} (f : Fd F C ns H) (e : Evs S H H') (h1 : F ∉ S) (h2 : C ∉ S) : Fd F C ns H' := by
  obtain ⟨kvs, hF, k⟩ := f.ex
  exact ⟨⟨kvs, e.ev _ _ hF h1, k⟩, e.ev _ _ f.cl h2⟩
/-! ### data of tuples -/
mutual
def tupD : PyData → Bool
  | .list _ => false
  | .dict _ => false
  | .tuple xs => tupAll xs
  | _ => true
def tupAll : List PyData → Bool
  | [] => true
  | x :: xs => tupD x && tupAll xs
end
theorem Evs.sqT {S : List Addr} {K : PySem.W.Frag} {H H' : Hp} {a : Addr} {xs : List V} (e : Evs S H H') (h : SqT K H a xs) : SqT K H' a xs := by
  rcases h with (h | ⟨o, h⟩) | h
  · exact .inl (.inl (e.tp _ _ h))
  · exact .inl (.inr ⟨o, e.fz _ _ _ h⟩)
  · exact .inr h
mutual
theorem Evs.dp {S : List Addr} {K : PySem.W.Frag} {H H' : Hp} (e : Evs S H H') : ∀ {d : PyData} {v : V}, tupD d = true → Dp K H v d → Dp K H' v d
  | _, _, _, .non => .non
  | _, _, _, .bl b => .bl b
  | _, _, _, .int i => .int i
  | _, _, _, .str x => .str x
  | _, _, t, .lst h a => by simp [tupD] at t
  | _, _, t, .tup h a => .tup (e.sqT h) (e.dpAll (by simpa [tupD] using t) a)
theorem Evs.dpAll {S : List Addr} {K : PySem.W.Frag} {H H' : Hp} (e : Evs S H H') : ∀ {ds : List PyData} {vs : List V}, tupAll ds = true → DpAll K H vs ds → DpAll K H' vs ds
  | _, _, _, .nil => .nil
  | _, _, t, .cons h a => by
    have t' := by simpa [tupAll] using t
    exact .cons (e.dp t'.1 h) (e.dpAll t'.2 a)
end
theorem tup_nm (n : Nm) : tupD (nmD n) = true := rfl
theorem tup_nms : ∀ ns : List Nm, tupAll (ns.map nmD) = true
  | [] => rfl
  | n :: r => by simp [tupAll, tup_nm, tup_nms r]
theorem NmA.evs {S : List Addr} {H H' : Hp} {n : Nm} {b : Addr} (h : NmA H n b) (e : Evs S H H') : NmA H' n b := e.tp _ _ h
theorem Nms.evs {S : List Addr} {H H' : Hp} (e : Evs S H H') : ∀ {ns : List Nm} {bs : List Addr}, Nms H ns bs → Nms H' ns bs
  | _, _, .nil => .nil
  | _, _, .cons h t => .cons (h.evs e) (Nms.evs e t)
theorem Nms.dpAll {K : PySem.W.Frag} {H : Hp} : ∀ {ns : List Nm} {bs : List Addr}, Nms H ns bs → DpAll K H (bs.map V.ref) (ns.map nmD)
  | _, _, .nil => .nil
  | _, _, .cons h t => .cons h.dp (Nms.dpAll t)
theorem Nms.len {H : Hp} {ns : List Nm} {bs : List Addr} (h : Nms H ns bs) : ns.length = bs.length := Paired.length h
theorem Nms.at {H : Hp} : ∀ {ns : List Nm} {bs : List Addr} {i : Nat} {b : Addr}, Nms H ns bs → bs[i]? = some b → ∃ n, ns[i]? = some n ∧ NmA H n b
  | _, _, _, _, .nil, e => by simp at e
  | _, _, 0, _, .cons h t, e => by simp at e; subst e; exact ⟨_, by simp, h⟩
  | _, _, i + 1, _, .cons h t, e => by
    obtain ⟨n, h1, h2⟩ := Nms.at t (i := i) (by simpa using e)
    exact ⟨n, by simpa using h1, h2⟩
theorem Nms.snoc {H : Hp} : ∀ {ns : List Nm} {bs : List Addr} {n : Nm} {b : Addr}, Nms H ns bs → NmA H n b → Nms H (ns ++ [n]) (bs ++ [b])
  | _, _, _, _, .nil, h => .cons h .nil
  | _, _, _, _, .cons h t, h2 => .cons h (Nms.snoc t h2)
/-! ### deeds, changes, worlds -/
inductive Deed where
  | join
  | hang (wide : Bool) (l : Str)
  | answer (n : Nm) (l : Str)
  | put (l : Str)
def kindS : Deed → Str
  | .join => Str.ofString "join"
  | .hang _ _ => Str.ofString "hang"
  | .answer _ _ => Str.ofString "answer"
  | .put _ => Str.ofString "put"
def restD : Deed → List PyData
  | .join => []
  | .hang w l => [.int 0, .int 1, .str (Str.ofString (if w then "wide" else "shut")), .str l]
  | .answer n l => [nmD n, .str l]
  | .put l => [.int 0, .str l]
def deedD (d : Deed) : PyData := .tuple (.str (kindS d) :: restD d)
structure Ch where
  nm : Nm
  hand : Str
  base : List Nm
  deed : Deed
  kn : List Nm
def chD (c : Ch) : PyData := .tuple [nmD c.nm, .str c.hand, .tuple (c.base.map nmD), deedD c.deed]
theorem tup_deed (d : Deed) : tupD (deedD d) = true := by cases d <;> simp [deedD, restD, tupD, tupAll, nmD]
theorem tup_ch (c : Ch) : tupD (chD c) = true := by simp [chD, tupD, tupAll, tup_nm, tup_nms, tup_deed]
abbrev names (cs : List Ch) : List Nm := cs.map (·.nm)
def findC (cs : List Ch) (n : Nm) : Option Ch := cs.find? fun c => decide (c.nm = n)
def knOf (cs : List Ch) (n : Nm) : List Nm := ((findC cs n).map (·.kn)).getD []
theorem findC_mem {cs : List Ch} {n : Nm} (h : n ∈ names cs) : ∃ c, findC cs n = some c ∧ c ∈ cs ∧ c.nm = n := by
  obtain ⟨c, hc, e⟩ := List.mem_map.mp h
  have : (findC cs n).isSome = true := by
    unfold findC
    rw [List.find?_isSome]
    exact ⟨c, hc, decide_eq_true e⟩
  obtain ⟨c', hc'⟩ := Option.isSome_iff_exists.mp this
  exact ⟨c', hc', List.mem_of_find?_eq_some hc', of_decide_eq_true (List.find?_some (p := fun c : Ch => decide (c.nm = n)) hc')⟩
def ins (l : List Nm) (n : Nm) : List Nm := if n ∈ l then l else l ++ [n]
def gather (l : List Nm) : List Nm := l.foldl ins []
theorem ins_nodup {l : List Nm} {n : Nm} (h : l.Nodup) : (ins l n).Nodup := by
  unfold ins
  split
  · exact h
  · rename_i hn
    rw [List.nodup_append]
    exact ⟨h, by simp, fun a ha b hb => by rw [List.mem_singleton.mp hb]; exact fun e => hn (e ▸ ha)⟩
theorem mem_ins {l : List Nm} {n m : Nm} : m ∈ ins l n ↔ m ∈ l ∨ m = n := by
  unfold ins
  split
  · rename_i h
    exact ⟨.inl, fun z => z.elim id fun e => e ▸ h⟩
  · rw [List.mem_append, List.mem_singleton]
theorem fold_nodup : ∀ (l acc : List Nm), acc.Nodup → (l.foldl ins acc).Nodup
  | [], _, h => h
  | n :: l, acc, h => fold_nodup l (ins acc n) (ins_nodup h)
theorem mem_fold {m : Nm} : ∀ (l acc : List Nm), m ∈ l.foldl ins acc ↔ m ∈ acc ∨ m ∈ l
  | [], _ => by simp
  | n :: l, acc => by
    rw [List.foldl_cons, mem_fold l, mem_ins, List.mem_cons]
    constructor
    · rintro ((h | h) | h)
      · exact .inl h
      · exact .inr (.inl h)
      · exact .inr (.inr h)
    · rintro (h | h | h)
      · exact .inl (.inl h)
      · exact .inl (.inr h)
      · exact .inr h
theorem gather_nodup (l : List Nm) : (gather l).Nodup := fold_nodup l [] .nil
theorem mem_gather {l : List Nm} {m : Nm} : m ∈ gather l ↔ m ∈ l := by unfold gather; rw [mem_fold]; simp
def want (cs : List Ch) (gs : List Nm) : List Nm := gather (gs.flatMap fun g => knOf cs g ++ [g])
def below (cs : List Ch) (fl : List Nm) : List Nm := gather (fl.flatMap (knOf cs))
def mkCh (cs : List Ch) (br : Str) (gs : List Nm) (hand : Str) (deed : Deed) : Ch where
  nm := (1 + maxZ 0 ((srt (want cs gs)).map (·.1)), br)
  hand := hand
  base := (srt (want cs gs)).filter fun n => !decide (n ∈ below cs (srt (want cs gs)))
  deed := deed
  kn := srt (want cs gs)
def lastOf (br : Str) (cs : List Ch) : Option Nm := cs.foldl (fun a c => if c.nm.2 = br then some c.nm else a) none
theorem lastOf_snoc (br : Str) (cs : List Ch) (c : Ch) : lastOf br (cs ++ [c]) = if c.nm.2 = br then some c.nm else lastOf br cs := by
  unfold lastOf; rw [List.foldl_append]; rfl
structure Wrd (z : Str) : Prop where
  one : 1 ≤ z.length
  most : z.length ≤ 8
  low : ∀ c ∈ z.cps.toList, 97 ≤ c ∧ c ≤ 122
structure Ltr (z : Str) : Prop where
  one : 1 ≤ z.length
  most : z.length ≤ 5
  low : ∀ c ∈ z.cps.toList, (97 ≤ c ∧ c ≤ 122) ∨ c = 32
def kindAt (cs : List Ch) (n : Nm) (k : String) : Prop := ∃ c, findC cs n = some c ∧ kindS c.deed = Str.ofString k
def DeedOk (cs : List Ch) (base fl : List Nm) : Deed → Prop
  | .join => 1 < base.length
  | .hang _ l => Ltr l ∧ ∃ n ∈ fl, kindAt cs n "put"
  | .answer n l => Ltr l ∧ n ∈ fl ∧ kindAt cs n "hang"
  | .put l => Ltr l
structure StepOk (ws : List Str) (cs : List Ch) (c : Ch) : Prop where
  ex : ∃ (br hand : Str) (gs : List Nm) (deed : Deed), br ∈ ws ∧ hand ∈ ws ∧ (∀ g ∈ gs, g ∈ names cs) ∧ (∀ n, lastOf br cs = some n → n ∈ gs) ∧ c = mkCh cs br gs hand deed ∧ DeedOk cs c.base c.kn deed
inductive Wr (ws : List Str) : List Ch → Prop
  | nil : Wr ws []
  | snoc {cs : List Ch} {c : Ch} : Wr ws cs → StepOk ws cs c → Wr ws (cs ++ [c])
/-- what a name knows is there -/
theorem knOf_snoc_old {cs : List Ch} {c : Ch} {n : Nm} (h : n ∈ names cs) : findC (cs ++ [c]) n = findC cs n := by
  obtain ⟨c', h1, _⟩ := findC_mem h
  unfold findC at h1 ⊢
  rw [List.find?_append, h1]
  rfl
theorem maxZ_ge : ∀ {l : List Int} {x : Int}, x ∈ l → x ≤ maxZ 0 l
  | n :: r, x, h => by
    have fold : ∀ (r : List Int) (a : Int), a ≤ r.foldl max a ∧ ∀ y ∈ r, y ≤ r.foldl max a := by
      intro r
      induction r with
      | nil => intro a; exact ⟨Int.le_refl _, fun y hy => by cases hy⟩
      | cons m r ih =>
        intro a
        rw [List.foldl_cons]
        obtain ⟨h1, h2⟩ := ih (max a m)
        refine ⟨Int.le_trans (Int.le_max_left a m) h1, fun y hy => ?_⟩
        rcases List.mem_cons.mp hy with e | hy
        · rw [e]; exact Int.le_trans (Int.le_max_right a m) h1
        · exact h2 y hy
    obtain ⟨h1, h2⟩ := fold r n
    rcases List.mem_cons.mp h with e | h
    · rw [e]; exact h1
    · exact h2 x h
theorem mem_want {cs : List Ch} {gs : List Nm} {g : Nm} (h : g ∈ gs) : g ∈ want cs gs := by
  unfold want; rw [mem_gather, List.mem_flatMap]; exact ⟨g, h, by simp⟩
theorem step_above {ws : List Str} {cs : List Ch} {c : Ch} (s : StepOk ws cs c) {n : Nm} (h : lastOf c.nm.2 cs = some n) : n.1 < c.nm.1 := by
  obtain ⟨br, hand, gs, deed, _, _, _, hl, rfl, _⟩ := s.ex
  have h1 := mem_want (cs := cs) (hl n h)
  have h2 : n.1 ∈ (srt (want cs gs)).map (·.1) := List.mem_map.mpr ⟨n, mem_srt.mpr h1, rfl⟩
  have h3 := maxZ_ge h2
  show n.1 < 1 + maxZ 0 ((srt (want cs gs)).map (·.1))
  omega
theorem last_max {ws : List Str} {cs : List Ch} (w : Wr ws cs) : ∀ c ∈ cs, ∃ m, lastOf c.nm.2 cs = some m ∧ c.nm.1 ≤ m.1 := by
  induction w with
  | nil => intro c hc; cases hc
  | snoc w s ih =>
    rename_i cs c0
    intro c hc
    rw [lastOf_snoc]
    rcases List.mem_append.mp hc with h | h
    · obtain ⟨m, h1, h2⟩ := ih c h
      by_cases e : c0.nm.2 = c.nm.2
      · rw [if_pos e]
        refine ⟨c0.nm, rfl, ?_⟩
        rw [← e] at h1
        have := step_above s h1
        omega
      · rw [if_neg e]; exact ⟨m, h1, h2⟩
    · rw [List.mem_singleton.mp h, if_pos rfl]
      exact ⟨_, rfl, Int.le_refl _⟩
theorem step_new {ws : List Str} {cs : List Ch} {c : Ch} (w : Wr ws cs) (s : StepOk ws cs c) : c.nm ∉ names cs := fun h => by
  obtain ⟨c', hc, e⟩ := List.mem_map.mp h
  obtain ⟨m, h1, h2⟩ := last_max w c' hc
  rw [e] at h1 h2
  have := step_above s h1
  omega
/-! ### the world in the heap -/
structure Wa where
  W : Addr
  A1 : Addr
  A2 : Addr
  A3 : Addr
  A4 : Addr
abbrev kCh : Key := Sum.inr "changes"
abbrev kKn : Key := Sum.inr "knows"
abbrev kLa : Key := Sum.inr "last"
abbrev kHa : Key := Sum.inr "hangs"
structure Wd (K : PySem.W.Frag) (a : Wa) (cs : List Ch) (H : Hp) : Prop where
  w : ∃ kvs, H a.W = some (.dK kvs) ∧ valV kvs kCh = some (.ref a.A1) ∧ valV kvs kKn = some (.ref a.A2) ∧ valV kvs kLa = some (.ref a.A3) ∧ valV kvs kHa = some (.ref a.A4)
  c1 : ∃ kvs, H a.A1 = some (.dT kvs) ∧ Paired (fun (c : Ch) (kv : List Key × V) => kv.1 = nmK c.nm ∧ Dp K H kv.2 (chD c)) cs kvs
  c2 : ∃ kvs, H a.A2 = some (.dT kvs) ∧ Paired (fun (c : Ch) (kv : List Key × V) => kv.1 = nmK c.nm ∧ ∃ l bs, kv.2 = .ref l ∧ l ≠ a.A4 ∧ H l = some (.lst (bs.map V.ref)) ∧ Nms H c.kn bs) cs kvs
  c3 : ∃ kvs, H a.A3 = some (.dK kvs) ∧ kvs.length ≤ cs.length ∧ ∀ br, (lastOf br cs = none ∧ valV kvs (.inr br) = none) ∨ ∃ n b, lastOf br cs = some n ∧ valV kvs (.inr br) = some (.ref b) ∧ NmA H n b
  c4 : ∃ bs : List Addr, H a.A4 = some (.lst (bs.map V.ref)) ∧ bs.length ≤ cs.length
  ne : a.A1 ≠ a.A2
theorem Wd.evs {K : PySem.W.Frag} {a : Wa} {cs : List Ch} {S : List Addr} {H H' : Hp} (w : Wd K a cs H) (e : Evs S H H') (hs : ∀ b ∈ S, b ≠ a.W ∧ b ≠ a.A1 ∧ b ≠ a.A2 ∧ b ≠ a.A3 ∧ b ≠ a.A4) (hl : ∀ b ∈ S, ∀ xs, H b ≠ some (.lst xs)) : Wd K a cs H' := by
  obtain ⟨kw, w1, w2, w3, w4, w5⟩ := w.w
  obtain ⟨k1, p1, p2⟩ := w.c1
  obtain ⟨k2, q1, q2⟩ := w.c2
  obtain ⟨k3, r1, r2, r3⟩ := w.c3
  obtain ⟨bs, s1, s2⟩ := w.c4
  refine ⟨⟨kw, e.ev _ _ w1 fun z => (hs _ z).1 rfl, w2, w3, w4, w5⟩, ⟨k1, e.ev _ _ p1 fun z => (hs _ z).2.1 rfl, Paired.mapP p2 fun c kv z => ⟨z.1, e.dp (tup_ch c) z.2⟩⟩, ⟨k2, e.ev _ _ q1 fun z => (hs _ z).2.2.1 rfl, Paired.mapP q2 fun c kv z => ?_⟩,
    ⟨k3, e.ev _ _ r1 fun z => (hs _ z).2.2.2.1 rfl, r2, fun br => ?_⟩, ⟨bs, e.ev _ _ s1 fun z => (hs _ z).2.2.2.2 rfl, s2⟩, w.ne⟩
  · obtain ⟨z1, l, cs', z2, z3, z4, z5⟩ := z
    exact ⟨z1, l, cs', z2, z3, e.ev _ _ z4 fun y => hl _ y _ z4, Nms.evs e z5⟩
  · rcases r3 br with h | ⟨n, b, h1, h2, h3⟩
    · exact .inl h
    · exact .inr ⟨n, b, h1, h2, h3.evs e⟩
/-- a change, by its name -/
theorem pair_get {P : Ch → V → Prop} : ∀ {cs : List Ch} {kvs : List (List Key × V)} {n : Nm}, Paired (fun (c : Ch) (kv : List Key × V) => kv.1 = nmK c.nm ∧ P c kv.2) cs kvs → n ∈ names cs → ∃ c v, findC cs n = some c ∧ valV kvs (nmK n) = some v ∧ P c v
  | _, _, n, .nil, h => by cases h
  | c :: cs, kv :: kvs, n, .cons hk t, h => by
    by_cases e : c.nm = n
    · refine ⟨c, kv.2, ?_, valV_pos (by rw [hk.1, e]), hk.2⟩
      unfold findC
      rw [List.find?_cons, decide_eq_true e]
    · have h' : n ∈ names cs := by
        rcases List.mem_cons.mp h with z | z
        · exact absurd z.symm e
        · exact z
      obtain ⟨c', v, h1, h2, h3⟩ := pair_get t h'
      refine ⟨c', v, ?_, ?_, h3⟩
      · unfold findC at h1 ⊢
        rw [List.find?_cons, decide_eq_false e]
        exact h1
      · rw [valV_neg]
        · exact h2
        · rw [hk.1]
          exact fun z => e (nmK_inj z)
theorem pair_none {P : Ch → V → Prop} : ∀ {cs : List Ch} {kvs : List (List Key × V)} {n : Nm}, Paired (fun (c : Ch) (kv : List Key × V) => kv.1 = nmK c.nm ∧ P c kv.2) cs kvs → n ∉ names cs → valV kvs (nmK n) = none
  | _, _, n, .nil, h => rfl
  | c :: cs, kv :: kvs, n, .cons hk t, h => by
    have h1 : ¬ c.nm = n := fun e => h (by simp [e])
    rw [valV_neg]
    · exact pair_none t fun z => h (List.mem_cons_of_mem _ z)
    · rw [hk.1]
      exact fun z => h1 (nmK_inj z)
theorem pair_keys {P : Ch → V → Prop} : ∀ {cs : List Ch} {kvs : List (List Key × V)}, Paired (fun (c : Ch) (kv : List Key × V) => kv.1 = nmK c.nm ∧ P c kv.2) cs kvs → kvs.map (·.1) = (names cs).map nmK
  | _, _, .nil => rfl
  | _, _, .cons hk t => by
    rw [List.map_cons, pair_keys t, hk.1]
    rfl
theorem pair_snoc {P : Ch → List Key × V → Prop} : ∀ {cs : List Ch} {kvs : List (List Key × V)} {c : Ch} {kv : List Key × V}, Paired P cs kvs → P c kv → Paired P (cs ++ [c]) (kvs ++ [kv])
  | _, _, _, _, .nil, h => .cons h .nil
  | _, _, _, _, .cons h t, h2 => .cons h (pair_snoc t h2)
end Mw

namespace Mw
open PySem PySem.Spec PyProof.Rows L2
structure Txt (mg : Str → Option Value) : Prop where
  isi : mg "isinstance" = none
  int : mg "int" = none
  bool : mg "bool" = none
  str : mg "str" = none
  tup : mg "tuple" = none
  len : mg "len" = none
  all : mg "all" = none
  any : mg "any" = none
  range : mg "range" = none
  ord : mg "ord" = none
  repr : mg "repr" = none
  lst : mg "list" = none
  max : mg "max" = none
  sorted : mg "sorted" = none
  zip : mg "zip" = none
theorem r65 {k : Nat} {A : Around} (r : Room k A) : A.units + 65 < cLine := by have := r.un; omega
theorem r16 {k : Nat} {A : Around} (r : Room k A) : A.units + 16 < cLine := by have := r.un; omega
theorem byR {R G : Prop} (main : R → G) (rest : R) : G := main rest
theorem dg {H : Hp} {F : Addr} {kvs : List (Key × V)} {k : Key} {v : V} (h : H F = some (.dK kvs)) (e : valV kvs k = some v) : DGet H F (kV k) (some v) := by
  have z := DGet.k (k := k) h
  rw [e] at z
  exact z
theorem dgT {H : Hp} {F b : Addr} {kvs : List (List Key × V)} {n : Nm} {o : Option V} (h : H F = some (.dT kvs)) (hb : NmA H n b) (e : valV kvs (nmK n) = o) : DGet H F (.ref b) o := by
  have z := DGet.t (k := nmK n) h hb
  rw [e] at z
  exact z
theorem lenPos {ns : List Int} (h : ns ≠ []) : (0 : Int) < ((ns.map V.int).length : Int) := by
  cases ns with
  | nil => exact absurd rfl h
  | cons x r => rw [List.map_cons, List.length_cons]; omega
theorem item_at {ns : List Int} (h : ns ≠ []) (n : Int) : ∃ cell : Int, atI (ns.map V.int) (n % ((ns.map V.int).length : Int)) = some (.int cell) := by
  have hp := lenPos h
  have h1 := Int.emod_nonneg n (show ((ns.map V.int).length : Int) ≠ 0 by omega)
  have h2 := Int.emod_lt_of_pos n hp
  obtain ⟨j, hj⟩ : ∃ j : Nat, n % ((ns.map V.int).length : Int) = (j : Int) := ⟨_, (Int.toNat_of_nonneg h1).symm⟩
  rw [hj] at h2 ⊢
  have hjl : j < ns.length := by rw [List.length_map] at h2; omega
  exact ⟨ns[j], atI_nat (by rw [List.getElem?_map, List.getElem?_eq_getElem hjl]; rfl)⟩
theorem cut63 (ns : List Int) (h : ns.length ≤ 63) : cutV (ns.map V.int) none (some 63) = ns.map V.int := by
  unfold cutV
  rw [HT.sIx_none, show HT.sIx (ns.map V.int).length (ns.map V.int).length (some 63) = min 63 (ns.map V.int).length from HT.sIx_nat _ _ 63, List.drop_zero, Nat.sub_zero]
  exact List.take_of_length_le (by rw [List.length_map]; omega)
/-! ### an address apart -/
theorem Fd.apart {F C : Addr} {ns : List Int} {H : Hp} (f : Fd F C ns H) {p : Addr} (n : H p = none) : p ≠ F ∧ p ≠ C := by
  obtain ⟨kvs, hF, _⟩ := f.ex
  exact ⟨(fun z => by rw [z, hF] at n; cases n), (fun z => by rw [z, f.cl] at n; cases n)⟩
/-! ### letters -/
theorem low_of {s : String} (h : ((Str.ofString s).cps.toList.all fun c => decide (97 ≤ c) && decide (c ≤ 122)) = true) : ∀ c ∈ (Str.ofString s).cps.toList, 97 ≤ c ∧ c ≤ 122 := fun c hc => by
  have := List.all_eq_true.mp h c hc
  rw [Bool.and_eq_true] at this
  exact ⟨of_decide_eq_true this.1, of_decide_eq_true this.2⟩
theorem at_mem {α : Type} {xs : List α} {r : Int} {c : α} (h : atI xs r = some c) : c ∈ xs := by
  unfold atI at h
  obtain ⟨j, _, hj⟩ := Option.bind_eq_some_iff.mp h
  exact List.mem_of_getElem? hj
theorem cl_one (c : Nat) : (⟨#[c]⟩ : Str).cps.toList = [c] := rfl
theorem sum_le_len : ∀ {ys : List Str}, (∀ y ∈ ys, y.length ≤ 1) → (ys.map (·.length)).sum ≤ ys.length
  | [], _ => Nat.le_refl _
  | y :: r, h => by
    have h1 := h y (by simp)
    have h2 := sum_le_len (ys := r) fun z hz => h z (List.mem_cons_of_mem _ hz)
    rw [List.map_cons, List.sum_cons, List.length_cons]
    omega
/-- a text put together from signs -/
theorem join_ones : ∀ (l : List Nat), (Str.join Str.empty (l.map fun c => (⟨#[c]⟩ : Str))).cps.toList = l
  | [] => rfl
  | [c] => rfl
  | c :: d :: r => by
    have ih := join_ones (d :: r)
    show ((⟨#[c]⟩ : Str) ++ Str.empty ++ Str.join Str.empty ((d :: r).map fun c => (⟨#[c]⟩ : Str))).cps.toList = c :: d :: r
    rw [cl_append, cl_append, ih]
    rfl
theorem str_len (z : Str) : z.length = z.cps.toList.length := by simp [Str.length]
theorem rep_one (c n : Nat) : (repS ⟨#[c]⟩ n).cps.toList = List.replicate n c := by
  unfold repS
  show (List.replicate n [c]).flatten.toArray.toList = _
  simp [List.flatten_replicate_singleton]
theorem cutS_sub {z : Str} {lo hi : Option Int} : ∀ c ∈ (cutS z lo hi).cps.toList, c ∈ z.cps.toList := fun c hc => by
  have hc' : c ∈ ((z.cps.toList.drop (HT.sIx z.length 0 lo)).take (HT.sIx z.length z.length hi - HT.sIx z.length 0 lo)).toArray.toList := hc
  rw [List.toList_toArray] at hc'
  exact List.mem_of_mem_drop (List.mem_of_mem_take hc')
theorem fiF {P : Prop} {b : Bool} (h : b = false) (q : P) {R : Prop} : if b = true then R else P := by rw [h]; exact q
end Mw

namespace Mw
open PySem PySem.Spec PyProof.Rows L2
/-! ### the world, one change more -/
theorem nodup_len {α : Type} [DecidableEq α] : ∀ {l m : List α}, l.Nodup → (∀ x ∈ l, x ∈ m) → l.length ≤ m.length
  | [], _, _, _ => Nat.zero_le _
  | x :: l, m, h, s => by
    have hx := List.nodup_cons.mp h
    have hm : x ∈ m := s x (by simp)
    have h1 : l.length ≤ (m.erase x).length := nodup_len hx.2 fun y hy => (List.mem_erase_of_ne (fun e => hx.1 (by rw [← e]; exact hy))).mpr (s y (List.mem_cons_of_mem _ hy))
    have h2 := List.length_erase_of_mem hm
    have h3 : 0 < m.length := List.length_pos_of_mem hm
    rw [List.length_cons]
    omega
theorem kn_sub {ws : List Str} {cs : List Ch} (w : Wr ws cs) : ∀ c ∈ cs, ∀ n ∈ c.kn, n ∈ names cs := by
  induction w with
  | nil => intro c hc; cases hc
  | snoc w s ih =>
    rename_i cs c0
    intro c hc n hn
    rcases List.mem_append.mp hc with h | h
    · have := ih c h n hn
      show n ∈ (cs ++ [c0]).map (·.nm)
      rw [List.map_append]
      exact List.mem_append_left _ this
    · rw [List.mem_singleton.mp h] at hn
      obtain ⟨br, hand, gs, deed, _, _, hg, _, e, _⟩ := s.ex
      rw [e] at hn
      have hn' : n ∈ want cs gs := mem_srt.mp hn
      unfold want at hn'
      rw [mem_gather, List.mem_flatMap] at hn'
      obtain ⟨g, hgg, hng⟩ := hn'
      show n ∈ (cs ++ [c0]).map (·.nm)
      rw [List.map_append]
      refine List.mem_append_left _ ?_
      rcases List.mem_append.mp hng with h | h
      · obtain ⟨c', h1, h2, _⟩ := findC_mem (hg g hgg)
        unfold knOf at h
        rw [h1] at h
        exact ih c' h2 n h
      · rw [List.mem_singleton.mp h]; exact hg g hgg
theorem kn_of_sub {ws : List Str} {cs : List Ch} (w : Wr ws cs) {g n : Nm} (h : n ∈ knOf cs g) : n ∈ names cs := by
  unfold knOf at h
  cases e : findC cs g with
  | none => rw [e] at h; cases h
  | some c =>
    rw [e] at h
    exact kn_sub w c (List.mem_of_find?_eq_some e) n h
theorem want_sub {ws : List Str} {cs : List Ch} (w : Wr ws cs) {gs : List Nm} (hg : ∀ g ∈ gs, g ∈ names cs) {n : Nm} (h : n ∈ want cs gs) : n ∈ names cs := by
  unfold want at h
  rw [mem_gather, List.mem_flatMap] at h
  obtain ⟨g, hgg, hng⟩ := h
  rcases List.mem_append.mp hng with h | h
  · exact kn_of_sub w h
  · rw [List.mem_singleton.mp h]; exact hg g hgg
theorem want_len {ws : List Str} {cs : List Ch} (w : Wr ws cs) {gs : List Nm} (hg : ∀ g ∈ gs, g ∈ names cs) : (want cs gs).length ≤ cs.length := by
  have := nodup_len (gather_nodup (gs.flatMap fun g => knOf cs g ++ [g])) (m := names cs) fun n hn => want_sub w hg hn
  rwa [List.length_map] at this
theorem br_in {ws : List Str} {cs : List Ch} (w : Wr ws cs) : ∀ n ∈ names cs, n.2 ∈ ws := by
  induction w with
  | nil => intro n hn; cases hn
  | snoc w s ih =>
    rename_i cs c0
    intro n hn
    have hn' : n ∈ (cs ++ [c0]).map (·.nm) := hn
    rw [List.map_append] at hn'
    rcases List.mem_append.mp hn' with h | h
    · exact ih n h
    · obtain ⟨br, hand, gs, deed, hb, _, _, _, e, _⟩ := s.ex
      rw [List.mem_singleton.mp h, e]
      exact hb
theorem last_in (br : Str) : ∀ (cs : List Ch) {n : Nm}, lastOf br cs = some n → n ∈ names cs := by
  intro cs n h
  have gen : ∀ (cs : List Ch) (o : Option Nm), cs.foldl (fun a c => if c.nm.2 = br then some c.nm else a) o = some n → o = some n ∨ n ∈ names cs := by
    intro cs
    induction cs with
    | nil => intro o h; exact .inl h
    | cons c r ih =>
      intro o h
      rcases ih _ h with z | z
      · have z : (if c.nm.2 = br then some c.nm else o) = some n := z
        by_cases e : c.nm.2 = br
        · rw [if_pos e] at z
          exact .inr (by rw [← Option.some.inj z]; exact List.mem_cons_self ..)
        · rw [if_neg e] at z
          exact .inl z
      · exact .inr (List.mem_cons_of_mem _ z)
  rcases gen cs none h with z | z
  · cases z
  · exact z
/-! ### a dict of names, each True -/
abbrev yes (n : Nm) : List Key × V := (nmK n, V.bl true)
theorem valV_yes {n : Nm} : ∀ acc : List Nm, valV (acc.map yes) (nmK n) = if n ∈ acc then some (V.bl true) else none
  | [] => rfl
  | m :: acc => by
    by_cases e : m = n
    · rw [List.map_cons, valV_pos (by rw [e]), if_pos (by simp [e])]
    · have : ¬ nmK m = nmK n := fun z => e (nmK_inj z)
      rw [List.map_cons, valV_neg this, valV_yes acc]
      by_cases h : n ∈ acc
      · rw [if_pos h, if_pos (List.mem_cons_of_mem _ h)]
      · rw [if_neg h, if_neg (fun z => (List.mem_cons.mp z).elim (fun q => e q.symm) h)]
theorem put_yes {n : Nm} (acc : List Nm) : putK (acc.map yes) (nmK n) (V.bl true) = (ins acc n).map yes := by
  unfold ins
  by_cases h : n ∈ acc
  · rw [if_pos h]
    unfold putK
    rw [valV_any, valV_yes, if_pos h, if_pos (show (some (V.bl true)).isSome = true from rfl), List.map_map]
    refine List.map_congr_left fun m _ => ?_
    show (if (yes m).1 = nmK n then ((yes m).1, V.bl true) else yes m) = yes m
    split <;> rfl
  · rw [if_neg h, putK_new _ (by rw [valV_yes, if_neg h]), List.map_append]
    rfl
theorem ins_len (acc : List Nm) (n : Nm) : (ins acc n).length ≤ acc.length + 1 := by
  unfold ins
  split
  · omega
  · rw [List.length_append]; exact Nat.le_refl _
theorem fold_len : ∀ (l acc : List Nm), (l.foldl ins acc).length ≤ acc.length + l.length
  | [], acc => Nat.le_refl _
  | n :: l, acc => by
    have h1 := fold_len l (ins acc n)
    have h2 := ins_len acc n
    rw [List.foldl_cons, List.length_cons]
    omega
theorem putK_le (kvs : List (Key × V)) (k : Key) (v : V) : (putK kvs k v).length ≤ kvs.length + 1 := by
  unfold putK
  split
  · rw [List.length_map]; omega
  · rw [List.length_append]; exact Nat.le_refl _
theorem wd_done {K : PySem.W.Frag} {a : Wa} {cs : List Ch} {H Hf : Hp} {c : Ch} {F ow l : Addr} {bf : List Addr} {v : V} (wd : Wd K a cs H) (e : Evs [F, a.A1, a.A2, a.A3, a.A4] H Hf) (fw : F ≠ a.W) (w3 : a.W ≠ a.A3) (nl : ∀ xs, H F ≠ some (.lst xs)) (new : c.nm ∉ names cs)
    (k1 : ∀ k, H a.A1 = some (.dT k) → Hf a.A1 = some (.dT (putK k (nmK c.nm) v))) (k2 : ∀ k, H a.A2 = some (.dT k) → Hf a.A2 = some (.dT (putK k (nmK c.nm) (.ref l)))) (k3 : ∀ k, H a.A3 = some (.dK k) → Hf a.A3 = some (.dK (putK k (.inr c.nm.2) (.ref ow))))
    (k4 : ∃ bs : List Addr, Hf a.A4 = some (.lst (bs.map V.ref)) ∧ bs.length ≤ cs.length + 1) (dv : Dp K Hf v (chD c)) (hl : l ≠ a.A4) (hf : Hf l = some (.lst (bf.map V.ref))) (nf : Nms Hf c.kn bf) (ho : NmA Hf c.nm ow) : Wd K a (cs ++ [c]) Hf := by
  obtain ⟨kw, w1, w2, w4, w5, w6⟩ := wd.w
  obtain ⟨q1, p1, p2⟩ := wd.c1
  obtain ⟨q2, r1, r2⟩ := wd.c2
  obtain ⟨q3, s1, s2, s3⟩ := wd.c3
  obtain ⟨b4, t1, t2⟩ := wd.c4
  have new1 := pair_none (P := fun c v => Dp K H v (chD c)) p2 new
  have new2 := pair_none (P := fun c v => ∃ l bs, v = .ref l ∧ l ≠ a.A4 ∧ H l = some (.lst (bs.map V.ref)) ∧ Nms H c.kn bs) r2 new
  have hk1 := k1 _ p1
  have hk2 := k2 _ r1
  have hk3 := k3 _ s1
  rw [putK_new _ new1] at hk1
  rw [putK_new _ new2] at hk2
  refine ⟨⟨kw, e.ev _ _ w1 ?_, w2, w4, w5, w6⟩, ⟨_, hk1, pair_snoc (Paired.mapP p2 fun c kv z => ⟨z.1, e.dp (tup_ch c) z.2⟩) ⟨rfl, dv⟩⟩, ⟨_, hk2, pair_snoc (Paired.mapP r2 fun c kv z => ?_) ⟨rfl, l, bf, rfl, hl, hf, nf⟩⟩, ⟨_, hk3, ?_, fun br => ?_⟩, ?_, wd.ne⟩
  · simp only [List.mem_cons, List.not_mem_nil, or_false, not_or]
    exact ⟨Ne.symm fw, ne_of w1 p1 (fun z => by cases z), ne_of w1 r1 (fun z => by cases z), w3, ne_of w1 t1 (fun z => by cases z)⟩
  · obtain ⟨z1, l', bs', z2, z3, z4, z5⟩ := z
    refine ⟨z1, l', bs', z2, z3, e.ev _ _ z4 ?_, Nms.evs e z5⟩
    simp only [List.mem_cons, List.not_mem_nil, or_false, not_or]
    exact ⟨fun z => nl _ (z ▸ z4), ne_of z4 p1 (fun z => by cases z), ne_of z4 r1 (fun z => by cases z), ne_of z4 s1 (fun z => by cases z), z3⟩
  · have := putK_le q3 (Sum.inr c.nm.2) (V.ref ow)
    rw [List.length_append, List.length_singleton]
    omega
  · rw [lastOf_snoc, valV_put]
    by_cases h : c.nm.2 = br
    · rw [if_pos h, if_pos (by rw [h])]
      exact .inr ⟨_, ow, rfl, rfl, ho⟩
    · rw [if_neg h, if_neg (fun z => h (Sum.inr.inj z).symm)]
      rcases s3 br with z | ⟨n, b, z1, z2, z3⟩
      · exact .inl z
      · exact .inr ⟨n, b, z1, z2, z3.evs e⟩
  · obtain ⟨bs, h1, h2⟩ := k4
    exact ⟨bs, h1, by rw [List.length_append]; exact h2⟩
theorem Evs.skip {S : List Addr} {p : Addr} {H H1 H2 : Hp} (a : Evs S H H1) (b : Evs [p] H1 H2) (n : H p = none) : Evs S H H2 :=
  ⟨fun c o e nc => b.ev c o (a.ev c o e nc) (by rw [List.mem_singleton]; exact ne_of_none e n), fun c xs e => b.tp c xs (a.tp c xs e), fun c o u e => b.fz c o u (a.fz c o u e), fun c e => a.th c (b.th c e)⟩
theorem aways {K : PySem.W.Frag} {a : Wa} {cs : List Ch} {H : Hp} {p : Addr} (w : Wd K a cs H) (n : H p = none) : p ≠ a.W ∧ p ≠ a.A1 ∧ p ≠ a.A2 ∧ p ≠ a.A3 ∧ p ≠ a.A4 := by
  obtain ⟨_, w1, _⟩ := w.w
  obtain ⟨_, p1, _⟩ := w.c1
  obtain ⟨_, p2, _⟩ := w.c2
  obtain ⟨_, p3, _⟩ := w.c3
  obtain ⟨_, p4, _⟩ := w.c4
  exact ⟨(ne_of_none w1 n).symm, (ne_of_none p1 n).symm, (ne_of_none p2 n).symm, (ne_of_none p3 n).symm, (ne_of_none p4 n).symm⟩
theorem names_sub {cs : List Ch} {c : Ch} : ∀ n ∈ names cs, n ∈ names (cs ++ [c]) := fun n hn => by
  show n ∈ (cs ++ [c]).map (·.nm)
  rw [List.map_append]
  exact List.mem_append_left _ hn
theorem kn_nodup {ws : List Str} {cs : List Ch} (w : Wr ws cs) : ∀ c ∈ cs, c.kn.Nodup := by
  induction w with
  | nil => intro c hc; cases hc
  | snoc w s ih =>
    intro c hc
    rcases List.mem_append.mp hc with h | h
    · exact ih c h
    · obtain ⟨br, hand, gs, deed, _, _, _, _, e, _⟩ := s.ex
      rw [List.mem_singleton.mp h, e]
      exact (srt_perm _).nodup_iff.mpr (gather_nodup _)
theorem kn_len {ws : List Str} {cs : List Ch} {m : Nat} (w : Wr ws cs) (h : cs.length ≤ m) : ∀ c ∈ cs, c.kn.length ≤ m := fun c hc => by
  have := nodup_len (kn_nodup w c hc) (m := names cs) (kn_sub w c hc)
  rw [List.length_map] at this
  omega
theorem gather_snoc (l : List Nm) (n : Nm) : gather (l ++ [n]) = ins (gather l) n := by unfold gather; rw [List.foldl_append]; rfl
theorem byC {Fa R : Hp → Prop} {G : Prop} (main : (∀ Hc, Fa Hc → R Hc) → G) (rest : ∀ Hc, Fa Hc → R Hc) : G := main rest
theorem byC2 {Fa R : Addr → Hp → Prop} {G : Prop} (main : (∀ p Hc, Fa p Hc → R p Hc) → G) (rest : ∀ p Hc, Fa p Hc → R p Hc) : G := main rest
end Mw

namespace Mw
open PySem PySem.Spec PyProof.Rows L2
/-! ### tuple(.. for x in a tuple ..) -/
theorem tg_tup {K : PySem.W.Frag} {a : Addr} {xs : List V} {g : TG} {tt : TT} {te : TE} {vs : List Nat} {σ : L2.St} {H : Hp} {En : List V → Hp → Prop} (Pv : Nat → List V → Hp → Prop) (h0 : Pv 0 [] H) (hl : ∀ i ys H, i ≤ xs.length → Pv i ys H → SqT K H a xs)
    (hs : ∀ i x ys H, xs[i]? = some x → Pv i ys H → g x (wipe σ vs) H fun σ2 H2 => wipe σ2 vs = wipe σ vs ∧ tt σ2 H2 fun b H3 =>
      if b = true then te σ2 H3 fun y H4 => (stpL ys y = none ∧ False) ∨ ∃ a', stpL ys y = some a' ∧ Pv (i + 1) a' H4 else Pv (i + 1) ys H3) (hd : ∀ ys H, Pv xs.length ys H → En ys H) :
    ∃ W : Nat → Nat → List V → Hp → Prop, (∃ m, W 0 m [] H) ∧ turns (Itt K a) g tt te vs stpL (fun _ _ _ => False) En σ W := by
  refine ⟨fun i m ys H => i + m = xs.length ∧ Pv i ys H, ⟨xs.length, by omega, h0⟩, fun i m ys H w => ?_⟩
  obtain ⟨e, pv⟩ := w
  have sq := hl i ys H (by omega) pv
  by_cases hi : i < xs.length
  · refine .inr ⟨⟨xs, xs[i], sq, List.getElem?_eq_getElem hi⟩, fun a' H' => Pv (i + 1) a' H', fun a' H' n => ⟨m - 1, by omega, by omega, n⟩, fun x H' y => ?_⟩
    obtain ⟨rfl, y⟩ := y
    exact hs i x ys _ (y xs sq) pv
  · have e2 : i = xs.length := by omega
    subst e2
    exact .inl ⟨⟨xs, sq, Nat.le_refl _⟩, hd ys H pv⟩
/-! ### zip of two lists -/
theorem for_zipM {K : PySem.W.Frag} {a b : Addr} {xs ys : List V} {g : TG} {tb : TS} {D : Ends} {σ : L2.St} {H : Hp} (Pv : Nat → L2.St → Hp → Prop) (h0 : Pv 0 σ H) (hq : ∀ i σ H, Pv i σ H → SqL K H a xs ∧ SqL K H b ys)
    (hs : ∀ (i : Nat) (x y : V) (T : Addr) (σ : L2.St) (H : Hp), xs[i]? = some x → ys[i]? = some y → Pv i σ H → H T = none → g (.ref T) σ (upd H T (.tup [x, y])) fun σ2 H2 => tb { D with nx := Pv (i + 1), ct := Pv (i + 1), bk := D.nx } σ2 H2)
    (hd : ∀ i σ H, Pv i σ H → (xs.length ≤ i ∨ ys.length ≤ i) → D.nx σ H) :
    ∃ W : Nat → Nat → L2.St → Hp → Prop, (∃ m, W 0 m σ H) ∧ ∀ i m σ H, W i m σ H →
      ((Itz K a b).stop i H ∧ D.nx σ H) ∨ ((Itz K a b).go i H ∧ ∃ N : L2.St → Hp → Prop, (∀ σ' H', N σ' H' → ∃ m', m' < m ∧ W (i + 1) m' σ' H') ∧ ∀ v H', (Itz K a b).yld i H v H' → g v σ H' fun σ2 H2 => tb { D with nx := N, ct := N, bk := D.nx } σ2 H2) := by
  refine ⟨fun i m σ H => xs.length ≤ i + m ∧ Pv i σ H, ⟨xs.length, by omega, h0⟩, ?_⟩
  rintro i m σ H ⟨hm, p⟩
  obtain ⟨qx, qy⟩ := hq i σ H p
  by_cases hlt : i < xs.length ∧ i < ys.length
  · refine .inr ⟨⟨xs, ys, _, _, qx, qy, List.getElem?_eq_getElem hlt.1, List.getElem?_eq_getElem hlt.2⟩, Pv (i + 1), fun σ' H' p' => ⟨m - 1, by omega, by omega, p'⟩, fun v H' y => ?_⟩
    obtain ⟨T, x', y', rfl, hT, rfl, f1, f2⟩ := y
    exact hs i x' y' T σ H (f1 xs qx) (f2 ys qy) p hT
  · have hend : xs.length ≤ i ∨ ys.length ≤ i := by omega
    exact .inl ⟨⟨xs, ys, qx, qy, hend⟩, hd i σ H p hend⟩
/-! ### the order of names -/
def lexLe : List Nat → List Nat → Bool
  | [], _ => true
  | _ :: _, [] => false
  | a :: l, b :: m => if a = b then lexLe l m else decide (a < b)
theorem lexLe_eq : ∀ l m : List Nat, lexLe l m = !decide (m < l)
  | [], m => by simp [lexLe]
  | a :: l, [] => by simp [lexLe]
  | a :: l, b :: m => by
    unfold lexLe
    by_cases h : a = b
    · subst h
      rw [if_pos rfl, lexLe_eq l m]
      congr 1
      rw [decide_eq_decide, List.cons_lt_cons_iff]
      constructor
      · exact fun z => .inr ⟨rfl, z⟩
      · rintro (z | ⟨_, z⟩)
        · exact absurd z (Nat.lt_irrefl _)
        · exact z
    · rw [if_neg h]
      by_cases h2 : a < b
      · rw [decide_eq_true h2]
        have : ¬ (b :: m < a :: l) := by
          rw [List.cons_lt_cons_iff]
          rintro (z | ⟨z, _⟩) <;> omega
        rw [decide_eq_false this]
        rfl
      · rw [decide_eq_false h2]
        have : b :: m < a :: l := by
          rw [List.cons_lt_cons_iff]
          exact .inl (by omega)
        rw [decide_eq_true this]
        rfl
def leN (m n : Nm) : Bool := !PySem.W.dataLt (nmD n) (nmD m)
theorem leN_eq (m n : Nm) : leN m n = if m.1 = n.1 then lexLe m.2.cps.toList n.2.cps.toList else decide (m.1 < n.1) := by
  unfold leN nmD
  rw [PySem.W.dataLt_pair (by simp [PySem.W.alike]) (by simp [PySem.W.alike]), PySem.W.dataLt_int, PySem.W.dataLt_str, lexLe_eq]
  have e1 : PyData.eqv (.int n.1) (.int m.1) = decide (n.1 = m.1) := by simp [PyData.eqv]; rfl
  have e2 : PyData.eqv (.str n.2) (.str m.2) = decide (n.2 = m.2) := by simp [PyData.eqv]; rfl
  rw [e1, e2]
  by_cases h : m.1 = n.1
  · rw [if_pos h, if_pos (decide_eq_true h.symm)]
    by_cases h2 : n.2 = m.2
    · rw [if_pos (decide_eq_true h2), h2, decide_eq_false (List.lt_irrefl _)]
    · rw [if_neg (by simpa using h2)]
  · rw [if_neg h, if_neg (by simpa using fun z => h z.symm)]
    by_cases h2 : n.1 < m.1
    · rw [decide_eq_true h2, decide_eq_false (by omega)]; rfl
    · rw [decide_eq_false h2, decide_eq_true (by omega)]; rfl
theorem lexLe_drop {l m : List Nat} {i : Nat} {x y : Nat} (hx : l[i]? = some x) (hy : m[i]? = some y) : lexLe (l.drop i) (m.drop i) = if x = y then lexLe (l.drop (i + 1)) (m.drop (i + 1)) else decide (x < y) := by
  obtain ⟨h1, h2⟩ := List.getElem?_eq_some_iff.mp hx
  obtain ⟨h3, h4⟩ := List.getElem?_eq_some_iff.mp hy
  rw [List.drop_eq_getElem_cons h1, List.drop_eq_getElem_cons h3, h2, h4]
  rfl
theorem lexLe_end {l m : List Nat} {i : Nat} (h : l.length ≤ i ∨ m.length ≤ i) (hi : i ≤ l.length ∧ i ≤ m.length) : lexLe (l.drop i) (m.drop i) = decide (l.length ≤ m.length) := by
  by_cases h1 : l.length ≤ i
  · rw [List.drop_eq_nil_of_le h1, decide_eq_true (by omega)]
    rfl
  · have hm : m.length ≤ i := by omega
    have hlt : i < l.length := by omega
    rw [List.drop_eq_nil_of_le hm, List.drop_eq_getElem_cons hlt, decide_eq_false (by omega)]
    rfl
/-! ### tables -/
theorem Grw.evs {T : List Addr} {H H' : Hp} (t : Tb T H) (g : Grw T H H') : Evs T H H' := by
  have nt : ∀ b o, H b = some o → (∀ ps, o ≠ .tbl ps) → b ∉ T := fun b o e h hb => by
    obtain ⟨ps, h1, _⟩ := t b hb
    rw [h1] at e
    cases e
    exact h ps rfl
  exact ⟨fun b o e nb => by rw [g.2 b nb]; exact e, fun b xs e => by rw [g.2 b (nt b _ e fun ps z => by cases z)]; exact e, fun b ob u e => by rw [g.2 b (nt b _ e fun ps z => by cases z)]; exact e, fun b e => g.none e⟩
theorem Tb.evs {S T : List Addr} {H H' : Hp} (t : Tb T H) (e : Evs S H H') (h : ∀ p ∈ T, p ∉ S) : Tb T H' := fun p hp => by
  obtain ⟨ps, h1, h2⟩ := t p hp
  exact ⟨ps, e.ev _ _ h1 (h p hp), h2⟩
theorem dp_nm {K : PySem.W.Frag} {H : Hp} {v : V} {n : Nm} (h : Dp K H v (nmD n)) : ∃ q, v = .ref q ∧ SqT K H q (nmV n) := by
  unfold nmD at h
  cases h with
  | tup hs ha =>
    cases ha with
    | cons h0 ha =>
      cases ha with
      | cons h1 ha =>
        cases ha
        cases h0
        cases h1
        exact ⟨_, rfl, hs⟩
theorem dpAll_at {K : PySem.W.Frag} {H : Hp} : ∀ {vs : List V} {ds : List PyData} {i : Nat} {v : V}, DpAll K H vs ds → vs[i]? = some v → ∃ d, ds[i]? = some d ∧ Dp K H v d
  | _, _, i, v, .nil, h => by simp at h
  | _, _, 0, v, .cons h t, e => by simp at e; subst e; exact ⟨_, by simp, h⟩
  | _, _, i + 1, v, .cons h t, e => by
    obtain ⟨d, h1, h2⟩ := dpAll_at t (i := i) (by simpa using e)
    exact ⟨d, by simpa using h1, h2⟩
end Mw

namespace Mw
open PySem PySem.Spec PyProof.Rows L2
/-! ### ledgers can be shown -/
structure NmOk (n : Nm) : Prop where
  wrd : Wrd n.2
  lo : 0 ≤ n.1
  hi : n.1 ≤ 100
def DeedSm : Deed → Prop
  | .join => True
  | .hang _ l => Ltr l
  | .answer n l => NmOk n ∧ Ltr l
  | .put l => Ltr l
structure ChOk (c : Ch) : Prop where
  nm : NmOk c.nm
  hand : Wrd c.hand
  base : ∀ n ∈ c.base, NmOk n
  bl : c.base.length ≤ 17
  deed : DeedSm c.deed
theorem maxZ_le {B : Int} (hB : 0 ≤ B) : ∀ {l : List Int}, (∀ x ∈ l, 0 ≤ x ∧ x ≤ B) → 0 ≤ maxZ 0 l ∧ maxZ 0 l ≤ B
  | [], _ => ⟨Int.le_refl _, hB⟩
  | n :: r, h => by
    have fold : ∀ (r : List Int) (a : Int), 0 ≤ a → a ≤ B → (∀ x ∈ r, 0 ≤ x ∧ x ≤ B) → 0 ≤ r.foldl max a ∧ r.foldl max a ≤ B := by
      intro r
      induction r with
      | nil => intro a h0 h1 _; exact ⟨h0, h1⟩
      | cons m r ih =>
        intro a h0 h1 hr
        rw [List.foldl_cons]
        have hm := hr m (by simp)
        exact ih (max a m) (by omega) (by omega) fun x hx => hr x (List.mem_cons_of_mem _ hx)
    have hn := h n (by simp)
    exact fold r n hn.1 hn.2 fun x hx => h x (List.mem_cons_of_mem _ hx)
theorem cnt_le {ws : List Str} {cs : List Ch} (w : Wr ws cs) : ∀ n ∈ names cs, 0 ≤ n.1 ∧ n.1 ≤ (cs.length : Int) := by
  induction w with
  | nil => intro n hn; cases hn
  | snoc w s ih =>
    rename_i cs c0
    intro n hn
    have hn' : n ∈ (cs ++ [c0]).map (·.nm) := hn
    rw [List.map_append] at hn'
    rw [List.length_append, List.length_singleton]
    rcases List.mem_append.mp hn' with h | h
    · have := ih n h
      omega
    · obtain ⟨br, hand, gs, deed, _, _, hg, _, e, _⟩ := s.ex
      rw [List.mem_singleton.mp h, e]
      have hb := maxZ_le (B := (cs.length : Int)) (by omega) (l := (srt (want cs gs)).map (·.1)) fun x hx => by
        obtain ⟨m, hm, rfl⟩ := List.mem_map.mp hx
        exact ih m (want_sub w hg (mem_srt.mp hm))
      show 0 ≤ 1 + maxZ 0 ((srt (want cs gs)).map (·.1)) ∧ 1 + maxZ 0 ((srt (want cs gs)).map (·.1)) ≤ _
      omega
theorem nm_ok {ws : List Str} {cs : List Ch} (w : Wr ws cs) (ww : ∀ z ∈ ws, Wrd z) (h : cs.length ≤ 17) : ∀ n ∈ names cs, NmOk n := fun n hn => by
  have := cnt_le w n hn
  exact ⟨ww _ (br_in w n hn), this.1, by omega⟩
theorem ch_ok {ws : List Str} {cs : List Ch} (w : Wr ws cs) (ww : ∀ z ∈ ws, Wrd z) : cs.length ≤ 17 → ∀ c ∈ cs, ChOk c := by
  induction w with
  | nil => intro _ c hc; cases hc
  | snoc w s ih =>
    rename_i cs c0
    intro hl c hc
    have hl' : cs.length ≤ 17 := by rw [List.length_append] at hl; omega
    rcases List.mem_append.mp hc with h | h
    · exact ih hl' c h
    · have e := List.mem_singleton.mp h
      have nmc : NmOk c.nm := nm_ok (.snoc w s) ww hl c.nm (List.mem_map.mpr ⟨c, hc, rfl⟩)
      obtain ⟨br, hand, gs, deed, _, hh, hg, _, e2, dk⟩ := s.ex
      rw [e] at nmc ⊢
      have kin : ∀ n ∈ c0.kn, NmOk n := fun n hn => by
        rw [e2] at hn
        exact nm_ok w ww hl' n (want_sub w hg (mem_srt.mp hn))
      have bs : ∀ n ∈ c0.base, n ∈ c0.kn := fun n hn => by
        rw [e2] at hn ⊢
        exact (List.mem_filter.mp hn).1
      have kl : c0.base.length ≤ 17 := by
        rw [e2]
        have h1 : ((srt (want cs gs)).filter fun n => !decide (n ∈ below cs (srt (want cs gs)))).length ≤ (srt (want cs gs)).length := List.length_filter_le ..
        rw [srt_len] at h1
        have h2 := want_len w hg
        show ((srt (want cs gs)).filter fun n => !decide (n ∈ below cs (srt (want cs gs)))).length ≤ 17
        omega
      refine ⟨nmc, by rw [e2]; exact ww _ hh, fun n hn => kin n (bs n hn), kl, ?_⟩
      have ed : c0.deed = deed := by rw [e2]; rfl
      rw [ed]
      cases deed with
      | join => trivial
      | hang wi l => exact dk.1
      | answer n l => exact ⟨kin n dk.2.1, dk.1⟩
      | put l => exact dk
theorem fine_str {z : Str} {n : Nat} (a : Asc n z) : fine (.str z) = true ∧ wt (.str z) ≤ 10 * n + 2 := by
  refine ⟨?_, ?_⟩
  · simp only [fine]
    rw [List.all_eq_true]
    exact fun c hc => decide_eq_true (a.2 c hc)
  · simp only [wt]
    have := a.1
    omega
theorem Wrd.asc {z : Str} (w : Wrd z) : Asc 8 z := ⟨w.most, fun c hc => by have := w.low c hc; omega⟩
theorem Ltr.asc {z : Str} (w : Ltr z) : Asc 5 z := ⟨w.most, fun c hc => by have := w.low c hc; omega⟩
theorem log2_le100 {i : Int} (h0 : 0 ≤ i) (h : i ≤ 100) : i.natAbs.log2 < 1920 := by
  have h2 : i.natAbs < 2 ^ 1000 := Nat.lt_of_lt_of_le (show i.natAbs < 1000 by omega) (by decide +kernel)
  exact Nat.lt_of_lt_of_le (PySem.Flt.log2_lt_of (by decide) h2) (by decide)
theorem fine_nm {n : Nm} (h : NmOk n) : fine (nmD n) = true ∧ wt (nmD n) ≤ 2010 ∧ (nmD n).depth = 1 := by
  obtain ⟨f1, f2⟩ := fine_str h.wrd.asc
  have f3 : fine (.int n.1) = true := by simpa [fine] using log2_le100 h.lo h.hi
  refine ⟨by simp only [nmD, fine, fineAll] at *; simp [f1, f3], ?_, by simp [nmD, PyData.depth, PyData.depthAll]⟩
  simp only [nmD, wt, wtAll] at *
  omega
theorem fine_nms : ∀ {l : List Nm}, (∀ n ∈ l, NmOk n) → fineAll (l.map nmD) = true ∧ wtAll (l.map nmD) ≤ 2012 * l.length ∧ PyData.depthAll (l.map nmD) ≤ 1
  | [], _ => ⟨rfl, by simp [wtAll], by simp [PyData.depthAll]⟩
  | n :: r, h => by
    obtain ⟨a, b, c⟩ := fine_nm (h n (by simp))
    obtain ⟨a2, b2, c2⟩ := fine_nms (l := r) fun m hm => h m (List.mem_cons_of_mem _ hm)
    refine ⟨by simp only [List.map_cons, fineAll, a, a2, Bool.and_self], ?_, ?_⟩
    · simp only [List.map_cons, wtAll, List.length_cons]
      omega
    · simp only [List.map_cons, PyData.depthAll, c]
      omega
theorem fine_deed {d : Deed} (h : DeedSm d) : fine (deedD d) = true ∧ wt (deedD d) ≤ 4200 ∧ (deedD d).depth ≤ 2 := by
  have f0 : fine (.int 0) = true := by decide +kernel
  have f1 : fine (.int 1) = true := by decide +kernel
  cases d with
  | join =>
    exact ⟨by decide +kernel, by decide +kernel, by decide +kernel⟩
  | hang wi l =>
    obtain ⟨a, b⟩ := fine_str (Ltr.asc h)
    have k : fine (.str (Str.ofString "hang")) = true ∧ wt (.str (Str.ofString "hang")) ≤ 42 := by decide +kernel
    have k2 : fine (.str (Str.ofString (if wi then "wide" else "shut"))) = true ∧ wt (.str (Str.ofString (if wi then "wide" else "shut"))) ≤ 42 := by cases wi <;> decide +kernel
    refine ⟨?_, ?_, ?_⟩
    · have e : fine (deedD (.hang wi l)) = (fine (.str (Str.ofString "hang")) && (fine (.int 0) && (fine (.int 1) && (fine (.str (Str.ofString (if wi then "wide" else "shut"))) && (fine (.str l) && true))))) := by simp only [deedD, restD, kindS, fine, fineAll]
      rw [e, a, k.1, k2.1, f0, f1]
      rfl
    · simp only [deedD, restD, kindS, wt, wtAll] at *
      omega
    · simp [deedD, restD, PyData.depth, PyData.depthAll]
  | answer n l =>
    obtain ⟨a, b⟩ := fine_str (Ltr.asc h.2)
    obtain ⟨c, d, e⟩ := fine_nm h.1
    have k : fine (.str (Str.ofString "answer")) = true ∧ wt (.str (Str.ofString "answer")) ≤ 62 := by decide +kernel
    refine ⟨?_, ?_, ?_⟩
    · simp only [deedD, restD, kindS] at *
      simp only [fine, fineAll] at *
      simp [a, k.1, c]
    · simp only [deedD, restD, kindS]
      have : wt (.tuple [.str (Str.ofString "answer"), nmD n, .str l]) = wt (.str (Str.ofString "answer")) + 2 + (wt (nmD n) + 2 + (wt (.str l) + 2 + 0)) + 3 := by simp only [wt, wtAll]
      rw [this]
      omega
    · simp only [deedD, restD, PyData.depth, PyData.depthAll, e]
      decide
  | put l =>
    obtain ⟨a, b⟩ := fine_str (Ltr.asc h)
    have k : fine (.str (Str.ofString "put")) = true ∧ wt (.str (Str.ofString "put")) ≤ 42 := by decide +kernel
    refine ⟨?_, ?_, ?_⟩
    · simp only [deedD, restD, kindS, fine, fineAll] at *
      simp [a, k.1, f0]
    · simp only [deedD, restD, kindS, wt, wtAll] at *
      omega
    · simp [deedD, restD, PyData.depth, PyData.depthAll]
theorem fine_ch {c : Ch} (h : ChOk c) : fine (chD c) = true ∧ wt (chD c) ≤ 41000 ∧ (chD c).depth ≤ 3 := by
  obtain ⟨a1, a2, a3⟩ := fine_nm h.nm
  obtain ⟨b1, b2⟩ := fine_str h.hand.asc
  obtain ⟨c1, c2, c3⟩ := fine_nms h.base
  obtain ⟨d1, d2, d3⟩ := fine_deed h.deed
  have hb := h.bl
  have e1 : fine (chD c) = (fine (nmD c.nm) && (fine (.str c.hand) && (fineAll (c.base.map nmD) && (fine (deedD c.deed) && true)))) := by simp only [chD, fine, fineAll]
  have e2 : wt (chD c) = wt (nmD c.nm) + 2 + (wt (.str c.hand) + 2 + ((wtAll (c.base.map nmD) + 3) + 2 + (wt (deedD c.deed) + 2 + 0))) + 3 := by simp only [chD, wt, wtAll]
  refine ⟨by rw [e1, a1, b1, c1, d1]; rfl, by rw [e2]; omega, ?_⟩
  simp only [chD, PyData.depth, PyData.depthAll, a3]
  omega
theorem fine_chs : ∀ {L : List Ch}, (∀ c ∈ L, ChOk c) → fineAll (L.map chD) = true ∧ wtAll (L.map chD) ≤ 41002 * L.length ∧ PyData.depthAll (L.map chD) ≤ 3
  | [], _ => ⟨rfl, by simp [wtAll], by simp [PyData.depthAll]⟩
  | c :: r, h => by
    obtain ⟨a, b, d⟩ := fine_ch (h c (by simp))
    obtain ⟨a2, b2, d2⟩ := fine_chs (L := r) fun m hm => h m (List.mem_cons_of_mem _ hm)
    refine ⟨by simp only [List.map_cons, fineAll, a, a2, Bool.and_self], ?_, ?_⟩
    · simp only [List.map_cons, wtAll, List.length_cons]
      omega
    · simp only [List.map_cons, PyData.depthAll]
      omega
abbrev ledD (L : List Ch) : PyData := .tuple (L.map chD)
theorem led_rp {K : PySem.W.Frag} {H : Hp} {x : V} {L : List Ch} (h : ∀ c ∈ L, ChOk c) (hl : L.length ≤ 17) (d : Dp K H x (ledD L)) : Dp K H x (ledD L) ∧ (ledD L).showable = true ∧ (ledD L).canLay0 = true ∧ (ledD L).depth ≤ 32 ∧ (ledD L).shown.length ≤ 1000000 := by
  obtain ⟨a, b, c⟩ := fine_chs h
  have hf : fine (ledD L) = true := by simp only [fine]; exact a
  obtain ⟨s1, s2, s3⟩ := fine_show hf
  refine ⟨d, s1, s2, by simp only [PyData.depth]; omega, Nat.le_trans s3 ?_⟩
  simp only [wt]
  have : 41002 * L.length ≤ 41002 * 17 := Nat.mul_le_mul_left _ hl
  omega
end Mw

namespace K06
open PySem PySem.Spec PyProof.Rows L2 Mw
def topS (i : Nat) : Stmt := PySem.Challenge.pw_marginwords_k06_elder_ledgers.main.body.getD i (.Pass ⟨0, 0, 0, 0⟩)
abbrev sFeed : Stmt := topS 3
theorem scFeed : FnScope ["_law_script"] ["_law_script"] (defScope sFeed) := ⟨rfl, rfl, rfl, by decide +kernel, rfl, by decide +kernel, by decide +kernel⟩
abbrev sDraw : Stmt := topS 4
theorem scDraw : FnScope ["_law_feed_here", "_law_many", "_law_figure", "_law_at", "_law_cell", "_law_mixed"] ["_law_feed_here", "_law_many"] (defScope sDraw) := ⟨rfl, rfl, rfl, by decide +kernel, rfl, by decide +kernel, by decide +kernel⟩
section
variable {P : Program} {w : World} {K : PySem.W.Frag} {mg : Str → Option Value} {base : Heap}
theorem ok_feed {f c : Addr} {fd : FuncData} {k : Nat} (D : Def K "_law_feed" sFeed f c fd) (ml : mg "list" = none) : FnOk P w K mg base CX0 (k + 1) f fd ["_law_script"] (spFeed K) := by
  refine D.ok scFeed (fun vs H Q E h => ?_) (fun A outer s H vs Q E hr h => ?_)
  · obtain ⟨a, ns, rfl, _⟩ := h
    rfl
  · obtain ⟨a, ns, rfl, hS, hl, q⟩ := h
    refine ⟨_, pss_one (ps_ret (pe_disp (pps_cons pe_str (pe_callTy call_list_of (by rfl) ml PyProof.Rows.boot_list (pa_cons (pe_slice sl_list (pv 0) po_none (po_some pe_int)) pa_nil))
      (pps_cons pe_str pe_int (pps_cons pe_str pe_int (pps_cons pe_str pe_int pps_nil)))) rfl rfl (by simp) (by decide))), ?_⟩
    intro F nF
    have s1 : Same H (upd H F (.dK [])) := fun b o e => by rw [upd_ne (ne_of_none e nF)]; exact e
    refine ⟨.ref a, rfl, 63, rfl, a, ns.map V.int, rfl, s1.seq hS, fun c1 nc1 => ?_⟩
    refine ⟨c1, _, rfl, .inl (.inl (.inl upd_same)), fun C nC => ?_⟩
    rw [cut63 ns hl] at nC ⊢
    have nc1F : c1 ≠ F := fun e => by
      rw [e, upd_same] at nc1
      cases nc1
    have nCF : C ≠ F := fun e => by
      rw [e, upd_ne (Ne.symm nc1F), upd_same] at nC
      cases nC
    refine ⟨by rw [upd_ne (Ne.symm nCF), upd_ne (Ne.symm nc1F), upd_same], [(kC, .ref C), (kA, .int 0), (kL, .int 0), (kN, .int 0)], rfl, (show (4 : Nat) ≤ 15 by decide), ?_⟩
    have hk : FeedK (mergeK [] [(kC, V.ref C), (kA, .int 0), (kL, .int 0), (kN, .int 0)]) C := by
      refine ⟨?_, ⟨0, ?_, Int.le_refl _⟩, ⟨0, ?_⟩, ⟨0, ?_⟩, ?_⟩
      · show valV (putK (putK (putK (putK [] kC (.ref C)) kA (.int 0)) kL (.int 0)) kN (.int 0)) kC = _
        rw [valV_put, if_neg kCN, valV_put, if_neg kCL, valV_put, if_neg kCA, valV_put, if_pos rfl]
      · show valV (putK (putK (putK (putK [] kC (.ref C)) kA (.int 0)) kL (.int 0)) kN (.int 0)) kA = _
        rw [valV_put, if_neg kAN, valV_put, if_neg kAL, valV_put, if_pos rfl]
      · show valV (putK (putK (putK (putK [] kC (.ref C)) kA (.int 0)) kL (.int 0)) kN (.int 0)) kL = _
        rw [valV_put, if_neg kLN, valV_put, if_pos rfl]
      · show valV (putK (putK (putK (putK [] kC (.ref C)) kA (.int 0)) kL (.int 0)) kN (.int 0)) kN = _
        rw [valV_put, if_pos rfl]
      · have e4 : (putK (putK (putK (putK ([] : List (Key × V)) kC (.ref C)) kA (.int 0)) kL (.int 0)) kN (.int 0)).length ≤ 4 := by
          have le : ∀ (kvs : List (Key × V)) (k : Key) (v : V), (putK kvs k v).length ≤ kvs.length + 1 := fun kvs k v => by
            unfold putK
            split
            · rw [List.length_map]; omega
            · rw [List.length_append]; exact Nat.le_refl _
          have h1 := le [] kC (.ref C)
          have h2 := le (putK [] kC (.ref C)) kA (.int 0)
          have h3 := le (putK (putK [] kC (.ref C)) kA (.int 0)) kL (.int 0)
          have h4 := le (putK (putK (putK [] kC (.ref C)) kA (.int 0)) kL (.int 0)) kN (.int 0)
          have h0 : ([] : List (Key × V)).length = 0 := rfl
          omega
        exact Nat.le_trans e4 (by decide)
    refine q F C _ nF ⟨⟨_, upd_same, hk⟩, by rw [upd_ne nCF, upd_same]⟩ fun b o e => ?_
    have nb : b ≠ F := ne_of_none e nF
    have nb1 : b ≠ c1 := fun z => by
      rw [← z, upd_ne nb, e] at nc1
      cases nc1
    have nb2 : b ≠ C := fun z => by
      rw [← z, upd_ne nb1, upd_ne nb, e] at nC
      cases nC
    rw [upd_ne nb, upd_ne nb2, upd_ne nb1, upd_ne nb]
    exact e
theorem ok_draw {f c : Addr} {fd : FuncData} {k : Nat} (D : Def K "_law_draw" sDraw f c fd) (t : Txt mg) : FnOk P w K mg base CX0 (k + 1) f fd ["_law_feed_here", "_law_many"] spDraw := by
  refine D.ok scDraw (fun vs H Q E h => ?_) (fun A outer s H vs Q E hr h => ?_)
  · obtain ⟨F, C, ns, m, rfl, _⟩ := h
    rfl
  · obtain ⟨F, C, ns, m, rfl, m0, m1, hl, fd, q⟩ := h
    have hu := hu_of hr
    have hu64 := hr.units
    refine ⟨_, (pss_cons (ps_dput hu (pv 0) pe_str (pe_op op_add (pe_dget hu (pv 0) pe_str (fun _ _ => rfl)) pe_int) rfl)
      (pss_cons (ps_if (pt_cmpR op_gt (pe_dget hu (pv 0) pe_str (fun _ _ => rfl)) pe_int (nomark _))
        (pss_cons (ps_set (i := 2) scDraw.nd rfl (by first | exact Or.inl rfl | exact Or.inr rfl) (pe_op op_mod (pe_dget hu (pv 0) pe_str (fun _ _ => rfl)) (pv 1)))
      (pss_cons (ps_dput hu (pv 0) pe_str (pe_op op_fdiv (pe_dget hu (pv 0) pe_str (fun _ _ => rfl)) (pv 1)) rfl)
      (pss_one (ps_ret (pv 2)))))
        pss_nil)
      (pss_cons (ps_set (i := 3) scDraw.nd rfl (by first | exact Or.inl rfl | exact Or.inr rfl) (pe_dget hu (pv 0) pe_str (fun _ _ => rfl)))
      (pss_cons (ps_dput hu (pv 0) pe_str (pe_op op_add (pv 3) pe_int) rfl)
      (pss_cons (ps_set (i := 4) scDraw.nd rfl (by first | exact Or.inl rfl | exact Or.inr rfl) (pe_ifExp (pt_cmpR (op_neD hu64) (pe_dget hu (pv 0) pe_str (fun _ _ => rfl)) (pe_lst pa_nil) (nomark _)) (pe_ix (show IxR _ (rIxL K) from ix_list) (pe_dget hu (pv 0) pe_str (fun _ _ => rfl)) (pe_op op_mod (pv 3) (pe_callB call_len_seq (by rfl) t.len PySem.boot_len (pa_cons (pe_dget hu (pv 0) pe_str (fun _ _ => rfl)) pa_nil))) (fun _ _ => rfl)) pe_int))
      (pss_cons (ps_if (PW.pt (pw_and (pt_cmpR op_ge (pv 4) (pe_op op_pow pe_int pe_int) (nomark _)) (pw_and1 (pt_cmpR op_lt (pv 3) (pe_callB call_len_seq (by rfl) t.len PySem.boot_len (pa_cons (pe_dget hu (pv 0) pe_str (fun _ _ => rfl)) pa_nil)) (nomark _)))))
        (pss_cons (ps_dput hu (pv 0) pe_str (pe_op op_fdiv (pv 4) (pv 1)) rfl)
      (pss_one (ps_ret (pe_op op_mod (pv 4) (pv 1)))))
        pss_nil)
      (pss_cons (ps_set (i := 5) scDraw.nd rfl (by first | exact Or.inl rfl | exact Or.inr rfl) (pe_op op_mod (pe_op op_add (pe_op op_add (pe_op op_mod (pv 4) pe_int) (pe_op op_mul pe_int (pe_dget hu (pv 0) pe_str (fun _ _ => rfl)))) pe_int) pe_int))
      (pss_cons (ps_set (i := 5) scDraw.nd rfl (by first | exact Or.inl rfl | exact Or.inr rfl) (pe_op op_mod (pe_op op_add (pe_op op_add (pe_op op_mul (pv 5) (pv 5)) (pe_op op_mul pe_int (pe_dget hu (pv 0) pe_str (fun _ _ => rfl)))) pe_int) pe_int))
      (pss_one (ps_ret (pe_op op_mod (pe_op op_fdiv (pe_op op_mod (pe_op op_add (pe_op op_mul (pv 5) (pv 5)) (pe_op op_mul pe_int (pv 5))) pe_int) pe_int) (pv 1)))))))))))), ?_⟩
    obtain ⟨kvs, hF, fk⟩ := fd.ex
    obtain ⟨cn, hcn⟩ := fk.count
    -- count
    refine ⟨_, rfl, F, .int cn, rfl, dg (k := kN) hF hcn, _, _, rfl, rfl, _, rfl, F, _, rfl, DPut.k (k := kN) hF (small1000 (by have := fk.len; omega)), ?_⟩
    have fk1 : FeedK (putK kvs kN (.int (cn + 1))) C := fk.putN
    generalize putK kvs kN (.int (cn + 1)) = kvs1 at fk1 ⊢
    have fd1 : Fd F C ns (upd H F (.dK kvs1)) := fd.put fk1
    have ev1 : Ev F H (upd H F (.dK kvs1)) := Ev.own
    have hF1 : (upd H F (.dK kvs1)) F = some (.dK kvs1) := upd_same
    generalize upd H F (.dK kvs1) = H1 at fd1 ev1 hF1 ⊢
    obtain ⟨l, hlf⟩ := fk1.left
    obtain ⟨n, hat, n0⟩ := fk1.at_
    refine ⟨_, rfl, F, .int l, rfl, dg (k := kL) hF1 hlf, _, _, rfl, rfl, _, rfl, ite2 (fun _ => ?_) (fun _ => ?_)⟩
    · -- the figures that are left
      refine ⟨_, rfl, F, .int l, rfl, dg (k := kL) hF1 hlf, _, rfl, _, _, rfl, rfl, m0, ?_⟩
      refine ⟨_, rfl, F, .int l, rfl, dg (k := kL) hF1 hlf, _, rfl, _, _, rfl, rfl, ⟨m0, m1⟩, _, rfl, F, _, rfl, DPut.k (k := kL) hF1 (small1000 (by have := fk1.len; omega)), ?_⟩
      exact ⟨_, rfl, q _ _ (Int.emod_nonneg _ (by omega)) (Int.emod_lt_of_pos _ m0) (fd1.put fk1.putL) (ev1.trans Ev.own)⟩
    · refine ⟨_, rfl, F, .int n, rfl, dg (k := kA) hF1 hat, ?_⟩
      refine ⟨_, rfl, _, _, rfl, rfl, _, rfl, F, _, rfl, DPut.k (k := kA) hF1 (small1000 (by have := fk1.len; omega)), ?_⟩
      have fk2 : FeedK (putK kvs1 kA (.int (n + 1))) C := fk1.putA (by omega)
      generalize putK kvs1 kA (.int (n + 1)) = kvs2 at fk2 ⊢
      have fd2 : Fd F C ns (upd H1 F (.dK kvs2)) := fd1.put fk2
      have ev2 : Ev F H (upd H1 F (.dK kvs2)) := ev1.trans Ev.own
      have hF2 : (upd H1 F (.dK kvs2)) F = some (.dK kvs2) := upd_same
      generalize upd H1 F (.dK kvs2) = H2 at fd2 ev2 hF2 ⊢
      refine ⟨_, rfl, F, .ref C, rfl, dg (k := kC) hF2 fk2.cells, Nat.zero_le _, fun p np => ?_⟩
      have fd3 : Fd F C ns (upd H2 p (.lst [])) := fd2.new np
      have ev3 : Ev F H (upd H2 p (.lst [])) := ev2.trans (Ev.new np)
      have hF3 : (upd H2 p (.lst [])) F = some (.dK kvs2) := by rw [upd_ne (ne_of_none hF2 np)]; exact hF2
      have hp3 : (upd H2 p (.lst [])) p = some (.lst []) := upd_same
      generalize upd H2 p (.lst []) = H3 at fd3 ev3 hF3 hp3 ⊢
      have sq : SqL K H3 C (ns.map V.int) := .inl (.inl fd3.cl)
      refine ⟨.list (ns.map PyData.int), .list [], .lst sq (dpInts ns), .lst (.inl (.inl hp3)) .nil, shapedInts ns, by decide +kernel, _, rfl, ?_⟩
      rw [eqvNil]
      by_cases hns : ns = []
      case' pos =>
        rw [decide_eq_true hns]
        refine iteF ?_
        generalize (3 : Int) = cell
      case' neg =>
        rw [decide_eq_false hns]
        refine iteT ?_
        obtain ⟨cell, hcell⟩ := item_at hns n
        refine ⟨_, rfl, F, .ref C, rfl, dg (k := kC) hF3 fk2.cells, _, rfl, _, rfl, F, .ref C, rfl, dg (k := kC) hF3 fk2.cells, C, _, rfl, .inl sq, _, _, rfl, rfl, lenPos hns, C, _, _, .int cell, rfl, rfl, sq, hcell, ?_⟩
      all_goals
        obtain ⟨cn2, hcn2⟩ := fk2.count
        apply byR
        · intro rest
          refine ⟨_, rfl, _, _, rfl, rfl, ⟨by decide, by decide, by decide⟩, _, _, rfl, rfl, _, rfl, ite2 (fun _ => ?_) (fun _ => iteF rest)⟩
          refine ⟨_, rfl, _, rfl, F, .ref C, rfl, dg (k := kC) hF3 fk2.cells, C, _, rfl, .inl sq, _, _, rfl, rfl, _, rfl, ite2 (fun _ => ?_) (fun _ => rest)⟩
          refine ⟨_, rfl, _, rfl, _, _, rfl, rfl, ⟨m0, m1⟩, _, rfl, F, _, rfl, DPut.k (k := kL) hF3 (small1000 (by have := fk2.len; omega)), ?_⟩
          exact ⟨_, rfl, _, rfl, _, _, rfl, rfl, m0, q _ _ (Int.emod_nonneg _ (by omega)) (Int.emod_lt_of_pos _ m0) (fd3.put fk2.putL) (ev3.trans Ev.own)⟩
        · refine ⟨_, rfl, _, _, rfl, rfl, (by show (0 : Int) < 1000000007; decide), _, rfl, F, .int cn2, rfl, dg (k := kN) hF3 hcn2, _, _, rfl, rfl, .inl ⟨by decide, by decide⟩, _, _, rfl, rfl, _, _, rfl, rfl, _, _, rfl, rfl, (by show (0 : Int) < 2147483629; decide), ?_⟩
          generalize hm1 : (cell % 1000000007 + 40503 * cn2 + 17) % 2147483629 = x1
          have b1 : 0 ≤ x1 ∧ x1 < 2147483629 := by rw [← hm1]; exact ⟨Int.emod_nonneg _ (by decide), Int.emod_lt_of_pos _ (by decide)⟩
          refine ⟨_, rfl, _, rfl, _, _, rfl, rfl, .inl ⟨by omega, by omega⟩, _, rfl, F, .int cn2, rfl, dg (k := kN) hF3 hcn2, _, _, rfl, rfl, .inl ⟨by decide, by decide⟩, _, _, rfl, rfl, _, _, rfl, rfl, _, _, rfl, rfl, (by show (0 : Int) < 2147483587; decide), ?_⟩
          generalize hm2 : (x1 * x1 + 15485863 * cn2 + 1) % 2147483587 = x2
          have b2 : 0 ≤ x2 ∧ x2 < 2147483587 := by rw [← hm2]; exact ⟨Int.emod_nonneg _ (by decide), Int.emod_lt_of_pos _ (by decide)⟩
          exact ⟨_, rfl, _, rfl, _, _, rfl, rfl, .inl ⟨by omega, by omega⟩, _, rfl, _, _, rfl, rfl, .inl ⟨by decide, by decide⟩, _, _, rfl, rfl, _, _, rfl, rfl, (by show (0 : Int) < 2147483549; decide), _, _, rfl, rfl, ⟨by decide, by decide⟩, _, rfl, _, _, rfl, rfl, m0,
            q _ _ (Int.emod_nonneg _ (by omega)) (Int.emod_lt_of_pos _ m0) fd3 ev3⟩
end
end K06

namespace K06
open PySem PySem.Spec PyProof.Rows L2 Mw
abbrev sWords : Stmt := topS 5
theorem scWords : FnScope ["_law_feed_here", "_law_many", "_law_abc", "_law_way", "_law_first", "_law_k", "_law_stem", "_law_at", "_law_start", "_law_step_here", "_law_words_here", "_law_tail", "_law_own"] ["_law_feed_here", "_law_many"] (defScope sWords) := ⟨rfl, rfl, rfl, by decide +kernel, rfl, by decide +kernel, by decide +kernel⟩
def spWords : Sp := fun vs H Q _ => ∃ (F C : Addr) (ns : List Int) (m : Int), vs = [.ref F, .int m] ∧ ns.length ≤ 63 ∧ 0 < m ∧ m ≤ 6 ∧ Fd F C ns H ∧
  ∀ (ws : List Str) (l : Addr) (H' : Hp), H l = none → H' l = some (.lst (ws.map V.str)) → (ws.length : Int) = m → (∀ z ∈ ws, Wrd z) → Fd F C ns H' → Evs [F] H H' → Q (.ref l) H'
theorem abc_low : ∀ c ∈ (Str.ofString "abcdefghijklmnopqrstuvwxyz").cps.toList, 97 ≤ c ∧ c ≤ 122 := low_of (by decide +kernel)
theorem abc_asc : Asc 26 (Str.ofString "abcdefghijklmnopqrstuvwxyz") := asc_of (by decide +kernel)
theorem abc_len : ((Str.ofString "abcdefghijklmnopqrstuvwxyz").length : Int) = 26 := by decide +kernel
abbrev one (c : Nat) : Str := ⟨#[c]⟩
theorem cut_two {st : Str} {r : Int} {n : Nat} (h0 : 0 ≤ r) (h : st.length ≤ n) : (cutS st none (some r)).length + (cutS st (some r) none).length ≤ n := by
  obtain ⟨j, rfl⟩ : ∃ j : Nat, r = (j : Int) := ⟨r.toNat, (Int.toNat_of_nonneg h0).symm⟩
  have e1 : (cutS st none (some (j : Int))).length = min j st.length := by
    rw [str_len]
    show ((st.cps.toList.drop (HT.sIx st.length 0 none)).take (HT.sIx st.length st.length (some (j : Int)) - HT.sIx st.length 0 none)).toArray.toList.length = _
    rw [HT.sIx_none, HT.sIx_nat, List.toList_toArray, List.length_take, List.length_drop, ← str_len]
    omega
  have e2 : (cutS st (some (j : Int)) none).length = st.length - min j st.length := by
    rw [str_len]
    show ((st.cps.toList.drop (HT.sIx st.length 0 (some (j : Int)))).take (HT.sIx st.length st.length none - HT.sIx st.length 0 (some (j : Int)))).toArray.toList.length = _
    rw [HT.sIx_none, HT.sIx_nat, List.toList_toArray, List.length_take, List.length_drop, ← str_len]
    omega
  omega
section
variable {P : Program} {w : World} {K : PySem.W.Frag} {mg : Str → Option Value} {base : Heap}
theorem ok_words {f c fD : Addr} {fd fdD : FuncData} (D : Def K "_law_words" sWords f c fd) (t : Txt mg) (kD : PySem.W.keepIn K (.ref fD) = true) (bD : Binds K fdD ["_law_feed_here", "_law_many"] []) (gD : mg "_law_draw" = some (.ref fD))
    (GD : FnOk P w K mg base CX0 1 fD fdD ["_law_feed_here", "_law_many"] spDraw) : FnOk P w K mg base CX0 2 f fd ["_law_feed_here", "_law_many"] spWords := by
  refine D.ok scWords (fun vs H Q E h => ?_) (fun A outer s H vs Q E hr h => ?_)
  · obtain ⟨F, C, ns, m, rfl, _⟩ := h
    rfl
  · obtain ⟨F, C, ns, m, rfl, hl, m0, m6, fd, q⟩ := h
    have hr1 : Room 1 _ := hr
    refine ⟨_, (pss_cons (ps_set (i := 2) scWords.nd rfl (by first | exact Or.inl rfl | exact Or.inr rfl) pe_str)
      (pss_cons (ps_set (i := 3) scWords.nd rfl (by first | exact Or.inl rfl | exact Or.inr rfl) (pe_call GD hr1 (by rfl) gD kD bD .nil pass0 (pa_cons (pv 0) (pa_cons pe_int pa_nil))))
      (pss_cons (ps_if (pt_cmpR op_eq (pv 3) pe_int (nomark _))
        (pss_cons (ps_set (i := 4) scWords.nd rfl (by first | exact Or.inl rfl | exact Or.inr rfl) (pe_ix ix_str (pv 2) (pe_call GD hr1 (by rfl) gD kD bD .nil pass0 (pa_cons (pv 0) (pa_cons pe_int pa_nil))) (fun _ _ => rfl)))
      (pss_one (ps_ret (pe_stp (pe_lc (own := [("_law_k", 5)]) (g := gName 5) (tt := tYes) rfl scWords.nd (pi_range1 (by rfl) t.range (pa_cons (pv 1) pa_nil)) (blkOk_by (N := ["_law_feed_here", "_law_many", "_law_abc", "_law_way", "_law_first", "_law_k", "_law_stem", "_law_at", "_law_start", "_law_step_here", "_law_words_here", "_law_tail", "_law_own"]) (sc := defScope sWords) (by decide +kernel)) (fun _ _ _ _ _ => (pg_name (i := 5) scWords.nd rfl (Or.inl rfl))) (fun _ _ _ _ _ => pts_nil) (fun _ _ _ _ _ => (pe_op op_mulS (pv 4) (pe_op op_add (pv 5) pe_int)))) (pe_op op_sub pe_int (pe_op op_mul pe_int (pe_call GD hr1 (by rfl) gD kD bD .nil pass0 (pa_cons (pv 0) (pa_cons pe_int pa_nil)))))))))
        pss_nil)
      (pss_cons (ps_set (i := 6) scWords.nd rfl (by first | exact Or.inl rfl | exact Or.inr rfl) (pe_bm PySem.F.plainAttrs_str PySem.F.slot_str_join PySem.F.type_str_join mt_join pe_str (pa_cons (pe_lc (own := [("_law_k", 5)]) (g := gName 5) (tt := tYes) rfl scWords.nd (pi_range1 (by rfl) t.range (pa_cons (pe_call GD hr1 (by rfl) gD kD bD .nil pass0 (pa_cons (pv 0) (pa_cons pe_int pa_nil))) pa_nil)) (blkOk_by (N := ["_law_feed_here", "_law_many", "_law_abc", "_law_way", "_law_first", "_law_k", "_law_stem", "_law_at", "_law_start", "_law_step_here", "_law_words_here", "_law_tail", "_law_own"]) (sc := defScope sWords) (by decide +kernel)) (fun _ _ _ _ _ => (pg_name (i := 5) scWords.nd rfl (Or.inl rfl))) (fun _ _ _ _ _ => pts_nil) (fun _ _ _ _ _ => (pe_ix ix_str (pv 2) (pe_call GD hr1 (by rfl) gD kD bD .nil pass0 (pa_cons (pv 0) (pa_cons pe_int pa_nil))) (fun _ _ => rfl)))) pa_nil)))
      (pss_cons (ps_set (i := 7) scWords.nd rfl (by first | exact Or.inl rfl | exact Or.inr rfl) (pe_call GD hr1 (by rfl) gD kD bD .nil pass0 (pa_cons (pv 0) (pa_cons (pe_op op_add (pe_callB call_len_str (by rfl) t.len PySem.boot_len (pa_cons (pv 6) pa_nil)) pe_int) pa_nil))))
      (pss_cons (ps_set (i := 8) scWords.nd rfl (by first | exact Or.inl rfl | exact Or.inr rfl) (pe_call GD hr1 (by rfl) gD kD bD .nil pass0 (pa_cons (pv 0) (pa_cons pe_int pa_nil))))
      (pss_cons (ps_set (i := 9) scWords.nd rfl (by first | exact Or.inl rfl | exact Or.inr rfl) (pe_ix (show IxR _ (rIxL K) from ix_list) (pe_lst (pa_cons pe_int (pa_cons pe_int (pa_cons pe_int (pa_cons pe_int (pa_cons pe_int (pa_cons pe_int pa_nil))))))) (pe_call GD hr1 (by rfl) gD kD bD .nil pass0 (pa_cons (pv 0) (pa_cons pe_int pa_nil))) (fun _ _ => rfl)))
      (pss_cons (ps_set (i := 10) scWords.nd rfl (by first | exact Or.inl rfl | exact Or.inr rfl) (pe_lst pa_nil))
      (pss_cons (ps_for PassesOwn.never rfl (pi_range1 (by rfl) t.range (pa_cons (pv 1) pa_nil)) (pg_name (i := 5) scWords.nd rfl (Or.inl rfl))
        (pss_cons (ps_set (i := 11) scWords.nd rfl (by first | exact Or.inl rfl | exact Or.inr rfl) (pe_op op_mulS (pe_ix ix_str (pv 2) (pe_call GD hr1 (by rfl) gD kD bD .nil pass0 (pa_cons (pv 0) (pa_cons pe_int pa_nil))) (fun _ _ => rfl)) (pe_call GD hr1 (by rfl) gD kD bD .nil pass0 (pa_cons (pv 0) (pa_cons pe_int pa_nil)))))
      (pss_cons (ps_set (i := 12) scWords.nd rfl (by first | exact Or.inl rfl | exact Or.inr rfl) (pe_ix ix_str (pv 2) (pe_op op_mod (pe_op op_add (pv 8) (pe_op op_mul (pv 5) (pv 9))) pe_int) (fun _ _ => rfl)))
      (pss_one (ps_expr (pe_bm PySem.F.plainAttrs_list PySem.F.slot_list_append PySem.F.type_list_append mt_append (pv 10) (pa_cons (pe_op op_add_str (pe_op op_add_str (pe_op op_add_str (pe_slice sl_str (pv 6) po_none (po_some (pv 7))) (pv 12)) (pe_slice sl_str (pv 6) (po_some (pv 7)) po_none)) (pv 11)) pa_nil)))))))
      (pss_one (ps_ret (pv 10)))))))))))), ?_⟩
    refine ⟨_, rfl, F, C, ns, 4, rfl, by decide, by decide, hl, fd, fun r1 H1 r10 r11 fd1 ev1 => ?_⟩
    have e1 := ev1.evs fd fd1
    refine ⟨_, rfl, rfl, _, rfl, ite2 (fun _ => ?_) (fun _ => ?_)⟩
    · -- beginnings of one another
      refine ⟨_, rfl, _, rfl, F, C, ns, 26, rfl, by decide, by decide, hl, fd1, fun r2 H2 r20 r21 fd2 ev2 => ?_⟩
      obtain ⟨sg, hsg, _⟩ := sign_at abc_asc r20 (by rw [abc_len]; exact r21)
      have low := abc_low sg (at_mem hsg)
      have e2 := e1.trans (ev2.evs fd1 fd2)
      refine ⟨_, r2, sg, rfl, rfl, abc_asc.line (by decide), hsg, ?_⟩
      refine ⟨_, rfl, m, rfl, by omega, by omega, fun L nL => ?_⟩
      have nL0 : H L = none := e2.th L nL
      have LF := (fd2.apart nL).1
      have LC := (fd2.apart nL).2
      refine lc_range (n := m.toNat) (fun i Hc => Fd F C ns Hc ∧ Evs [F] H Hc ∧ ∃ ws : List Str, Hc L = some (.lst (ws.map V.str)) ∧ ws.length = i ∧ ∀ z ∈ ws, Wrd z)
        ⟨fd2.new nL, e2.put nL0, [], upd_same, rfl, fun z hz => by cases hz⟩ (fun i Hc hi pv => ?_) (fun Hc pv => ?_)
      · obtain ⟨fc, ec, ws, hL, hwl, hwa⟩ := pv
        refine ⟨wipe_set _ 5 _, ?_⟩
        simp only [tYes, if_true]
        refine ⟨_, rfl, _, rfl, _, _, rfl, rfl, _, _, rfl, rfl, by omega, by omega, (by show (1 : Nat) ≤ 1000; decide), ?_⟩
        refine ⟨ws.map V.str, hL, small1000 (by rw [List.length_map]; omega), fc.over hL LF LC, ec.put nL0, ws ++ [repS ⟨#[sg]⟩ (0 + (i : Int) + 1).toNat], by rw [upd_same, List.map_append]; rfl, by rw [List.length_append, hwl]; rfl, fun z hz => ?_⟩
        rcases List.mem_append.mp hz with h | h
        · exact hwa z h
        · rw [List.mem_singleton.mp h]
          have e := rep_one sg (0 + (i : Int) + 1).toNat
          refine ⟨?_, ?_, fun c hc => ?_⟩
          · rw [str_len, e, List.length_replicate]; omega
          · rw [str_len, e, List.length_replicate]; omega
          · rw [e] at hc; rw [(List.mem_replicate.mp hc).2]; exact low
      · obtain ⟨fc, ec, ws, hL, hwl, hwa⟩ := pv
        refine ⟨_, rfl, F, C, ns, 2, rfl, by decide, by decide, hl, fc, fun r3 H3 r30 r31 fd3 ev3 => ?_⟩
        have e3 := ec.trans (ev3.evs fc fd3)
        have hL3 : H3 L = some (.lst (ws.map V.str)) := ev3 _ _ hL LF
        refine ⟨_, _, rfl, rfl, .inl ⟨by decide, by decide⟩, _, _, rfl, rfl, 1 - 2 * r3, rfl, L, ws.map V.str, _, rfl, rfl, by omega, .inl (.inl hL3), fun p np => ?_⟩
        have np0 := e3.th p np
        by_cases h1 : (1 - 2 * r3 : Int) = 1
        · rw [if_pos h1]
          exact q ws p _ np0 upd_same (by omega) hwa (fd3.new np) (e3.put np0)
        · rw [if_neg h1]
          exact q ws.reverse p _ np0 (by rw [upd_same, List.map_reverse]) (by rw [List.length_reverse]; omega) (fun z hz => hwa z (List.mem_reverse.mp hz)) (fd3.new np) (e3.put np0)
    · -- a stem
      refine ⟨rfl, _, rfl, F, C, ns, 7, rfl, by decide, by decide, hl, fd1, fun r2 H2 r20 r21 fd2 ev2 => ⟨r2, rfl, by omega, by omega, fun L nL => ?_⟩⟩
      have e2 := e1.trans (ev2.evs fd1 fd2)
      have nL0 : H L = none := e2.th L nL
      have LF := (fd2.apart nL).1
      have LC := (fd2.apart nL).2
      refine lc_range (n := r2.toNat) (fun i Hc => Fd F C ns Hc ∧ Evs [F] H Hc ∧ ∃ l : List Nat, Hc L = some (.lst ((l.map one).map V.str)) ∧ l.length = i ∧ ∀ c ∈ l, 97 ≤ c ∧ c ≤ 122)
        ⟨fd2.new nL, e2.put nL0, [], upd_same, rfl, fun z hz => by cases hz⟩ (fun i Hc hi pv => ?_) (fun Hc pv => ?_)
      · obtain ⟨fc, ec, l, hL, hll, hla⟩ := pv
        refine ⟨wipe_set _ 5 _, ?_⟩
        simp only [tYes, if_true]
        refine ⟨_, rfl, _, rfl, F, C, ns, 26, rfl, by decide, by decide, hl, fc, fun r5 H5 r50 r51 fd5 ev5 => ?_⟩
        obtain ⟨sg, hsg, _⟩ := sign_at abc_asc r50 (by rw [abc_len]; exact r51)
        have hL5 : H5 L = some (.lst ((l.map one).map V.str)) := ev5 L _ hL LF
        refine ⟨_, r5, sg, rfl, rfl, abc_asc.line (by decide), hsg, _, hL5, by rw [List.length_map, List.length_map]; exact small1000 (by omega), fd5.over hL5 LF LC, (ec.trans (ev5.evs fc fd5)).put nL0, l ++ [sg], ?_, ?_, fun z hz => ?_⟩
        · rw [upd_same, List.map_append, List.map_append]; rfl
        · rw [List.length_append, hll]; rfl
        · rcases List.mem_append.mp hz with h | h
          · exact hla z h
          · rw [List.mem_singleton.mp h]; exact abc_low sg (at_mem hsg)
      · obtain ⟨fc, ec, l, hL, hll, hla⟩ := pv
        refine ⟨_, L, l.map one, rfl, rfl, .inl (.inl (.inl hL)), ?_, ?_⟩
        · have h1 : ((l.map one).map (·.length)).sum ≤ (l.map one).length := sum_le_len fun y hy => by
            obtain ⟨c, _, rfl⟩ := List.mem_map.mp hy
            exact Nat.le_refl 1
          have h2 : (Str.ofString "").length = 0 := by decide +kernel
          rw [List.length_map] at h1
          rw [h2, Nat.mul_zero]
          omega
        have ejoin : Txt.join (Str.ofString "") (l.map one) = Str.join Str.empty (l.map one) := by
          rw [TL.join_eq]
          have : Str.ofString "" = Str.empty := by decide +kernel
          rw [this]
        rw [ejoin]
        have ez : (Str.join Str.empty (l.map one)).cps.toList = l := join_ones l
        generalize Str.join Str.empty (l.map one) = st at ez ⊢
        have sl : st.length ≤ 6 := by rw [str_len, ez]; omega
        have slow : ∀ c ∈ st.cps.toList, 97 ≤ c ∧ c ≤ 122 := by rw [ez]; exact hla
        have sasc : Asc 6 st := ⟨sl, fun c hc => by have := slow c hc; omega⟩
        clear ejoin ez hL hll hla nL nL0 LF LC
        -- at, start, step
        refine ⟨_, rfl, _, rfl, st, rfl, sasc.line (by decide), _, _, rfl, rfl, F, C, ns, _, rfl, by omega, by omega, hl, fc, fun r6 H6 r60 r61 fd6 ev6 => ?_⟩
        have e6 := ec.trans (ev6.evs fc fd6)
        refine ⟨_, rfl, F, C, ns, 26, rfl, by decide, by decide, hl, fd6, fun r7 H7 r70 r71 fd7 ev7 => ?_⟩
        have e7 := e6.trans (ev7.evs fd6 fd7)
        refine ⟨(by show 6 ≤ sizeLine; decide), fun p np => ?_⟩
        have np0 := e7.th p np
        refine ⟨_, rfl, F, C, ns, 6, rfl, by decide, by decide, hl, fd7.new np, fun r8 H8 r80 r81 fd8 ev8 => ?_⟩
        have e8 := (e7.put (o := .lst [V.int 1, V.int 3, V.int 5, V.int 7, V.int 9, V.int 25]) np0).trans (ev8.evs (fd7.new np) fd8)
        have hp8 := ev8 p _ upd_same (fd7.apart np).1
        obtain ⟨v, hv, hmem, _⟩ := val_at (xs := [V.int 1, V.int 3, V.int 5, V.int 7, V.int 9, V.int 25]) r80 r81
        obtain ⟨k, rfl, k0, k25⟩ : ∃ k : Int, v = .int k ∧ 0 ≤ k ∧ k ≤ 25 := by
          simp only [List.mem_cons, List.not_mem_nil, or_false] at hmem
          rcases hmem with h | h | h | h | h | h <;> exact ⟨_, h, by decide, by decide⟩
        refine ⟨p, _, r8, _, rfl, rfl, .inl (.inl hp8), hv, ?_⟩
        clear hv hmem hp8
        -- the words
        refine ⟨Nat.zero_le _, fun Lw nLw => ?_⟩
        have nLw0 := e8.th Lw nLw
        have LF := (fd8.apart nLw).1
        have LC := (fd8.apart nLw).2
        refine ⟨_, rfl, m, rfl, by omega, by omega, for_range (n := m.toNat) (fun i σ Hc => ∃ v5 v11 v12, σ = [some (.ref F), some (.int m), some (.str (Str.ofString "abcdefghijklmnopqrstuvwxyz")), some (.int r1), none, v5, some (.str st), some (.int r6), some (.int r7), some (.int k), some (.ref Lw), v11, v12] ∧
          Fd F C ns Hc ∧ Evs [F] H Hc ∧ ∃ ws : List Str, Hc Lw = some (.lst (ws.map V.str)) ∧ ws.length = i ∧ ∀ z ∈ ws, Wrd z) ⟨none, none, none, rfl, fd8.new nLw, e8.put nLw0, [], upd_same, rfl, fun z hz => by cases hz⟩ ?_ ?_⟩
        · rintro i σ Hc hi ⟨v5, v11, v12, rfl, fdc, ecc, ws, hLw, hwl, hwa⟩
          refine ⟨_, rfl, _, rfl, F, C, ns, 26, rfl, by decide, by decide, hl, fdc, fun ra Ha ra0 ra1 fda eva => ?_⟩
          obtain ⟨sa, hsa, asa⟩ := sign_at abc_asc ra0 (by rw [abc_len]; exact ra1)
          refine ⟨_, ra, sa, rfl, rfl, abc_asc.line (by decide), hsa, _, rfl, F, C, ns, 2, rfl, by decide, by decide, hl, fda, fun rb Hb rb0 rb1 fdb evb => ?_⟩
          refine ⟨_, _, rfl, rfl, rb0, by omega, (by show (1 : Nat) ≤ 1000; decide), ?_⟩
          have tlow := abc_low sa (at_mem hsa)
          have et := rep_one sa rb.toNat
          generalize repS ⟨#[sa]⟩ rb.toNat = tl at et ⊢
          have tl1 : tl.length ≤ 1 := by rw [str_len, et, List.length_replicate]; omega
          have tll : ∀ c ∈ tl.cps.toList, 97 ≤ c ∧ c ≤ 122 := by
            rw [et]
            intro c hc
            rw [(List.mem_replicate.mp hc).2]
            exact tlow
          have b26 : 0 ≤ (r7 + (0 + (i : Int)) * k) % 26 ∧ (r7 + (0 + (i : Int)) * k) % 26 < 26 := ⟨Int.emod_nonneg _ (by decide), Int.emod_lt_of_pos _ (by decide)⟩
          obtain ⟨so, hso, aso⟩ := sign_at abc_asc b26.1 (by rw [abc_len]; exact b26.2)
          refine ⟨_, rfl, _, rfl, _, rfl, _, rfl, _, _, rfl, rfl, .inl ⟨by omega, by omega⟩, _, _, rfl, rfl, _, _, rfl, rfl, (by show (0 : Int) < 26; decide), _, _, so, rfl, rfl, abc_asc.line (by decide), hso, ?_⟩
          have olow := abc_low so (at_mem hso)
          have ebb := (ecc.trans (eva.evs fdc fda)).trans (evb.evs fda fdb)
          have hLb : Hb Lw = some (.lst (ws.map V.str)) := evb _ _ (eva _ _ hLw LF) LF
          have c1 := sasc.cut none (some r6)
          have c3 := sasc.cut (some r6) none
          have lens : (cutS st none (some r6)).length + (cutS st (some r6) none).length ≤ 6 := cut_two r60 sl
          have l1 : (⟨#[so]⟩ : Str).length = 1 := rfl
          have zz : (cutS st none (some r6)).length + (⟨#[so]⟩ : Str).length ≤ sizeLine := by rw [sizeLine_eq]; omega
          have zz2 : (cutS st none (some r6) ++ ⟨#[so]⟩).length + (cutS st (some r6) none).length ≤ sizeLine := by rw [len_append, sizeLine_eq]; omega
          have zz3 : (cutS st none (some r6) ++ ⟨#[so]⟩ ++ cutS st (some r6) none).length + tl.length ≤ sizeLine := by rw [len_append, len_append, sizeLine_eq]; omega
          refine ⟨_, rfl, .inl ⟨rfl, _, .inl (.inl hLb)⟩, _, rfl, _, rfl, r6, rfl, st, rfl, sasc.line (by decide), _, rfl, _, _, rfl, rfl, zz, _, rfl, _, rfl, r6, rfl, st, rfl, sasc.line (by decide), _, _, rfl, rfl, zz2, _, rfl, _, _, rfl, rfl, zz3, Lw, ws.map V.str, _, rfl, rfl, hLb, small1000 (by rw [List.length_map]; omega), ?_⟩
          refine ⟨_, _, _, rfl, fdb.over hLb LF LC, ebb.put nLw0, ws ++ [cutS st none (some r6) ++ ⟨#[so]⟩ ++ cutS st (some r6) none ++ tl], by rw [upd_same, List.map_append]; rfl, by rw [List.length_append, hwl]; rfl, fun z hz => ?_⟩
          rcases List.mem_append.mp hz with h | h
          · exact hwa z h
          · rw [List.mem_singleton.mp h]
            refine ⟨?_, ?_, fun c hc => ?_⟩
            · rw [len_append, len_append, len_append]; omega
            · rw [len_append, len_append, len_append]; omega
            · rw [cl_append, cl_append, cl_append] at hc
              rcases List.mem_append.mp hc with hc | hc
              · rcases List.mem_append.mp hc with hc | hc
                · rcases List.mem_append.mp hc with hc | hc
                  · exact slow c (cutS_sub c hc)
                  · rw [cl_one] at hc; rw [List.mem_singleton.mp hc]; exact olow
                · exact slow c (cutS_sub c hc)
              · exact tll c hc
        · rintro σ Hc ⟨v5, v11, v12, rfl, fdc, ecc, ws, hLw, hwl, hwa⟩
          exact ⟨_, rfl, q ws Lw Hc nLw0 hLw (by omega) hwa fdc ecc⟩
end
end K06

namespace K06
open PySem PySem.Spec PyProof.Rows L2 Mw
abbrev sDeed : Stmt := topS 6
theorem scDeed : FnScope ["_law_feed_here", "_law_world_here", "_law_base", "_law_floor", "_law_abc", "_law_letters", "_law_way", "_law_sorts", "_law_hangs", "_law_k", "_law_name"] ["_law_feed_here", "_law_world_here", "_law_base", "_law_floor"] (defScope sDeed) := ⟨rfl, rfl, rfl, by decide +kernel, rfl, by decide +kernel, by decide +kernel⟩
structure Apart (F C : Addr) (a : Wa) : Prop where
  fw : F ≠ a.W
  f3 : F ≠ a.A3
  w3 : a.W ≠ a.A3
  c4 : C ≠ a.A4
theorem evF {K : PySem.W.Frag} {a : Wa} {cs : List Ch} {F C : Addr} {ns : List Int} {H H' : Hp} (w : Wd K a cs H) (f : Fd F C ns H) (ap : Apart F C a) (e : Evs [F] H H') : Wd K a cs H' := by
  obtain ⟨kvs, hF, _⟩ := f.ex
  obtain ⟨k1, p1, _⟩ := w.c1
  obtain ⟨k2, p2, _⟩ := w.c2
  obtain ⟨b4, p4, _⟩ := w.c4
  refine w.evs e (fun b hb => ?_) fun b hb xs h => ?_
  · rw [List.mem_singleton.mp hb]
    exact ⟨ap.fw, ne_of hF p1 (fun z => by cases z), ne_of hF p2 (fun z => by cases z), ap.f3, ne_of hF p4 (fun z => by cases z)⟩
  · rw [List.mem_singleton.mp hb, hF] at h
    cases h
theorem ev0 {K : PySem.W.Frag} {a : Wa} {cs : List Ch} {H H' : Hp} (w : Wd K a cs H) (e : Evs [] H H') : Wd K a cs H' := w.evs e (fun b hb => by cases hb) fun b hb => by cases hb
theorem fd0 {F C : Addr} {ns : List Int} {H H' : Hp} (f : Fd F C ns H) (e : Evs [] H H') : Fd F C ns H' := f.evs e List.not_mem_nil List.not_mem_nil
theorem at0 {α : Type} {x : α} {l : List α} : atI (x :: l) 0 = some x := atI_nat (xs := x :: l) (j := 0) rfl
theorem ch_parts {K : PySem.W.Frag} {H : Hp} {v : V} {c : Ch} (h : Dp K H v (chD c)) : ∃ q v0 v2 v3, v = .ref q ∧ SqT K H q [v0, .str c.hand, v2, v3] ∧ Dp K H v0 (nmD c.nm) ∧ Dp K H v2 (.tuple (c.base.map nmD)) ∧ Dp K H v3 (deedD c.deed) := by
  unfold chD at h
  cases h with
  | tup hs ha =>
    cases ha with
    | cons h0 ha =>
      cases ha with
      | cons h1 ha =>
        cases ha with
        | cons h2 ha =>
          cases ha with
          | cons h3 ha =>
            cases ha
            cases h1
            exact ⟨_, _, _, _, rfl, hs, h0, h2, h3⟩
theorem deed_parts {K : PySem.W.Frag} {H : Hp} {v : V} {d : Deed} (h : Dp K H v (deedD d)) : ∃ q us, v = .ref q ∧ SqT K H q (.str (kindS d) :: us) := by
  unfold deedD at h
  cases h with
  | tup hs ha =>
    cases ha with
    | cons h0 ha =>
      cases h0
      exact ⟨_, _, rfl, hs⟩
theorem get1 {K : PySem.W.Frag} {a : Wa} {cs : List Ch} {H : Hp} {n : Nm} (w : Wd K a cs H) (h : n ∈ names cs) : ∃ kvs c v, H a.A1 = some (.dT kvs) ∧ findC cs n = some c ∧ valV kvs (nmK n) = some v ∧ Dp K H v (chD c) := by
  obtain ⟨k1, p1, p2⟩ := w.c1
  obtain ⟨c, v, h1, h2, h3⟩ := pair_get (P := fun c v => Dp K H v (chD c)) p2 h
  exact ⟨k1, c, v, p1, h1, h2, h3⟩
theorem get2 {K : PySem.W.Frag} {a : Wa} {cs : List Ch} {H : Hp} {n : Nm} (w : Wd K a cs H) (h : n ∈ names cs) : ∃ kvs c l bs, H a.A2 = some (.dT kvs) ∧ findC cs n = some c ∧ valV kvs (nmK n) = some (.ref l) ∧ l ≠ a.A4 ∧ H l = some (.lst (bs.map V.ref)) ∧ Nms H c.kn bs := by
  obtain ⟨k1, p1, p2⟩ := w.c2
  obtain ⟨c, v, h1, h2, l, bs, rfl, h4, h5, h6⟩ := pair_get (P := fun c v => ∃ l bs, v = .ref l ∧ l ≠ a.A4 ∧ H l = some (.lst (bs.map V.ref)) ∧ Nms H c.kn bs) p2 h
  exact ⟨k1, c, l, bs, p1, h1, h2, h4, h5, h6⟩
def kindN (cs : List Ch) (n : Nm) : Str := ((findC cs n).map fun c => kindS c.deed).getD Str.empty
theorem kindN_at {cs : List Ch} {n : Nm} {k : String} (h : n ∈ names cs) (e : kindN cs n = Str.ofString k) : kindAt cs n k := by
  obtain ⟨c, hc, _⟩ := findC_mem h
  refine ⟨c, hc, ?_⟩
  unfold kindN at e
  rw [hc] at e
  exact e
abbrev abcb : Str := Str.ofString "abcdefghijklmnopqrstuvwxyz "
theorem abcb_low : ∀ c ∈ abcb.cps.toList, (97 ≤ c ∧ c ≤ 122) ∨ c = 32 := by
  have h : (abcb.cps.toList.all fun c => (decide (97 ≤ c) && decide (c ≤ 122)) || decide (c = 32)) = true := by decide +kernel
  intro c hc
  have := List.all_eq_true.mp h c hc
  simpa using this
theorem abcb_asc : Asc 27 abcb := asc_of (by decide +kernel)
theorem abcb_len : (abcb.length : Int) = 27 := by decide +kernel
theorem take_snoc {α : Type} {l : List α} {i : Nat} {x : α} (h : l[i]? = some x) : l.take (i + 1) = l.take i ++ [x] := by rw [List.take_add_one, h]; rfl
theorem Wrd.ok {z : Str} (w : Wrd z) : PyData.strOk z = true := strOk_of (List.all_eq_true.mpr fun c hc => decide_eq_true (by have := w.low c hc; omega))
theorem shNm {n : Nm} (h : Wrd n.2) : SeqAt.shaped (nmD n) = true := by
  show (PyData.canLay0 (nmD n) && decide (PyData.depth (nmD n) ≤ 64)) = true
  rw [Bool.and_eq_true]
  exact ⟨by simp [nmD, PyData.canLay0, PyData.canLayAll0, Wrd.ok h], by simp [nmD, PyData.depth, PyData.depthAll]⟩
theorem shNms0 : ∀ {l : List Nm}, (∀ n ∈ l, Wrd n.2) → PyData.canLayAll0 (l.map nmD) = true ∧ PyData.depthAll (l.map nmD) ≤ 1
  | [], _ => ⟨rfl, Nat.zero_le _⟩
  | n :: r, h => by
    obtain ⟨a, b⟩ := shNms0 (l := r) fun m hm => h m (List.mem_cons_of_mem _ hm)
    have hn := Wrd.ok (h n (by simp))
    have c1 : PyData.canLay0 (nmD n) = true := by simp [nmD, PyData.canLay0, PyData.canLayAll0, hn]
    have c2 : PyData.depth (nmD n) = 1 := by simp [nmD, PyData.depth, PyData.depthAll]
    refine ⟨by simp only [List.map_cons, PyData.canLayAll0, c1, a, Bool.and_self], ?_⟩
    simp only [List.map_cons, PyData.depthAll, c2]
    omega
theorem shNms {l : List Nm} (h : ∀ n ∈ l, Wrd n.2) : SeqAt.shaped (.list (l.map nmD)) = true := by
  obtain ⟨a, b⟩ := shNms0 h
  show (PyData.canLay0 (.list (l.map nmD)) && decide (PyData.depth (.list (l.map nmD)) ≤ 64)) = true
  rw [Bool.and_eq_true]
  exact ⟨by simp only [PyData.canLay0]; exact a, decide_eq_true (by simp only [PyData.depth]; omega)⟩
theorem eqvNilN (l : List Nm) : PyData.eqv (.list (l.map nmD)) (.list []) = decide (l = []) := by
  cases l with
  | nil => simp [PyData.eqv, PyData.eqvAll]
  | cons n r => simp [PyData.eqv, PyData.eqvAll]
def spDeed (K : PySem.W.Frag) : Sp := fun vs H Q _ => ∃ (F C : Addr) (ns : List Int) (a : Wa) (cs : List Ch) (tb fl : Addr) (base floor : List Nm) (bb bf : List Addr), vs = [.ref F, .ref a.W, .ref tb, .ref fl] ∧ ns.length ≤ 63 ∧ Fd F C ns H ∧ Apart F C a ∧ Wd K a cs H ∧
  H tb = some (.tup (bb.map V.ref)) ∧ Nms H base bb ∧ H fl = some (.lst (bf.map V.ref)) ∧ Nms H floor bf ∧ (∀ n ∈ floor, n ∈ names cs) ∧ (∀ n ∈ floor, Wrd n.2) ∧ floor.length ≤ 100 ∧ cs.length ≤ 100 ∧ fl ≠ F ∧
  ∀ (d : Deed) (v : V) (H' : Hp), DeedOk cs base floor d → Dp K H' v (deedD d) → Fd F C ns H' → Evs [F] H H' → Q v H'
section
variable {P : Program} {w : World} {K : PySem.W.Frag} {mg : Str → Option Value} {base : Heap}
theorem ok_deed {f c fD : Addr} {fd fdD : FuncData} (D : Def K "_law_deed" sDeed f c fd) (t : Txt mg) (kD : PySem.W.keepIn K (.ref fD) = true) (bD : Binds K fdD ["_law_feed_here", "_law_many"] []) (gD : mg "_law_draw" = some (.ref fD))
    (GD : FnOk P w K mg base CX0 1 fD fdD ["_law_feed_here", "_law_many"] spDraw) : FnOk P w K mg base CX0 2 f fd ["_law_feed_here", "_law_world_here", "_law_base", "_law_floor"] (spDeed K) := by
  refine D.ok scDeed (fun vs H Q E h => ?_) (fun A outer s H vs Q E hr h => ?_)
  · obtain ⟨F, C, ns, a, cs, tb, fl, base, floor, bb, bf, rfl, _⟩ := h
    rfl
  · obtain ⟨F, C, ns, a, cs, tb, fl, base, floor, bb, bf, rfl, hl, fd, ap, wd, htb, nb, hfl, nf, sub, wrd, f100, c100, flF, q⟩ := h
    have hr1 : Room 1 _ := hr
    have hu := hu_of hr
    have hu64 := hr.units
    refine ⟨_, (pss_cons (ps_set (i := 4) scDeed.nd rfl (by first | exact Or.inl rfl | exact Or.inr rfl) pe_str)
      (pss_cons (ps_set (i := 5) scDeed.nd rfl (by first | exact Or.inl rfl | exact Or.inr rfl) (pe_bm PySem.F.plainAttrs_str PySem.F.slot_str_join PySem.F.type_str_join mt_join pe_str (pa_cons (pe_lc (own := [("_law_k", 9)]) (g := gName 9) (tt := tYes) rfl scDeed.nd (pi_range1 (by rfl) t.range (pa_cons (pe_op op_add pe_int (pe_call GD hr1 (by rfl) gD kD bD .nil pass0 (pa_cons (pv 0) (pa_cons pe_int pa_nil)))) pa_nil)) (blkOk_by (N := ["_law_feed_here", "_law_world_here", "_law_base", "_law_floor", "_law_abc", "_law_letters", "_law_way", "_law_sorts", "_law_hangs", "_law_k", "_law_name"]) (sc := defScope sDeed) (by decide +kernel)) (fun _ _ _ _ _ => (pg_name (i := 9) scDeed.nd rfl (Or.inl rfl))) (fun _ _ _ _ _ => pts_nil) (fun _ _ _ _ _ => (pe_ix ix_str (pv 4) (pe_call GD hr1 (by rfl) gD kD bD .nil pass0 (pa_cons (pv 0) (pa_cons pe_int pa_nil))) (fun _ _ => rfl)))) pa_nil)))
      (pss_cons (ps_set (i := 6) scDeed.nd rfl (by first | exact Or.inl rfl | exact Or.inr rfl) (pe_call GD hr1 (by rfl) gD kD bD .nil pass0 (pa_cons (pv 0) (pa_cons pe_int pa_nil))))
      (pss_cons (ps_set (i := 7) scDeed.nd rfl (by first | exact Or.inl rfl | exact Or.inr rfl) (pe_lc (own := [("_law_name", 10)]) (g := gName 10) (tt := tYes) rfl scDeed.nd (pi_list (pv 3)) (blkOk_by (N := ["_law_feed_here", "_law_world_here", "_law_base", "_law_floor", "_law_abc", "_law_letters", "_law_way", "_law_sorts", "_law_hangs", "_law_k", "_law_name"]) (sc := defScope sDeed) (by decide +kernel)) (fun _ _ _ _ _ => (pg_name (i := 10) scDeed.nd rfl (Or.inl rfl))) (fun _ _ _ _ _ => pts_nil) (fun _ _ _ _ _ => (pe_ix (show IxR _ (rIxT K) from ix_tup) (pe_ix (show IxR _ (rIxT K) from ix_tup) (pe_dget hu (pe_dget hu (pv 1) pe_str (fun _ _ => rfl)) (pv 10) (fun _ _ => rfl)) pe_int (fun _ _ => rfl)) pe_int (fun _ _ => rfl)))))
      (pss_cons (ps_setLc (i := 8) (own := [("_law_k", 9)]) (g := gName 9) rfl scDeed.nd rfl rfl (sw_true rfl rfl rfl (by decide +kernel)) (pi_range1 (by rfl) t.range (pa_cons (pe_callB call_len_seq (by rfl) t.len PySem.boot_len (pa_cons (pv 3) pa_nil)) pa_nil)) (blkOk_by (N := ["_law_feed_here", "_law_world_here", "_law_base", "_law_floor", "_law_abc", "_law_letters", "_law_way", "_law_sorts", "_law_hangs", "_law_k", "_law_name"]) (sc := defScope sDeed) (by decide +kernel)) (fun _ _ _ _ _ => (pg_name (i := 9) scDeed.nd rfl (Or.inl rfl))) (fun _ _ _ _ _ => (pts_one (pt_cmpR op_eq (pe_ix (show IxR _ (rIxL K) from ix_list) (pv 7) (pv 9) (fun _ _ => rfl)) pe_str (nomark _)))) (fun _ _ _ _ _ => (pe_ix (show IxR _ (rIxL K) from ix_list) (pv 3) (pv 9) (fun _ _ => rfl))))
      (pss_cons (ps_if (PW.pt (pw_and (pt_cmpR op_eq (pv 6) pe_int (nomark _)) (pw_and1 (pt_cmpR op_gt (pe_callB call_len_seq (by rfl) t.len PySem.boot_len (pa_cons (pv 2) pa_nil)) pe_int (nomark _)))))
        (pss_one (ps_ret (pe_tup (pa_cons pe_str pa_nil))))
        pss_nil)
      (pss_cons (ps_if (PW.pt (pw_and (pt_cmpR op_eq (pv 6) pe_int (nomark _)) (pw_and (pt_cmpR (show OpR _ _ (rIn K false) from op_in_seq) pe_str (pv 7) rfl) (pw_and1 (pt_cmpR op_lt (pe_callB call_len_seq (by rfl) t.len PySem.boot_len (pa_cons (pe_dget hu (pv 1) pe_str (fun _ _ => rfl)) pa_nil)) pe_int (nomark _))))))
        (pss_one (ps_ret (pe_tup (pa_cons pe_str (pa_cons pe_int (pa_cons pe_int (pa_cons (pe_ix (show IxR _ (rIxL K) from ix_list) (pe_lst (pa_cons pe_str (pa_cons pe_str pa_nil))) (pe_call GD hr1 (by rfl) gD kD bD .nil pass0 (pa_cons (pv 0) (pa_cons pe_int pa_nil))) (fun _ _ => rfl)) (pa_cons (pv 5) pa_nil))))))))
        pss_nil)
      (pss_cons (ps_if (PW.pt (pw_and (pt_cmpR op_eq (pv 6) pe_int (nomark _)) (pw_and1 (pt_cmpR (op_neD hu64) (pv 8) (pe_lst pa_nil) (nomark _)))))
        (pss_one (ps_ret (pe_tup (pa_cons pe_str (pa_cons (pe_ix (show IxR _ (rIxL K) from ix_list) (pv 8) (pe_call GD hr1 (by rfl) gD kD bD .nil pass0 (pa_cons (pv 0) (pa_cons (pe_callB call_len_seq (by rfl) t.len PySem.boot_len (pa_cons (pv 8) pa_nil)) pa_nil))) (fun _ _ => rfl)) (pa_cons (pv 5) pa_nil))))))
        pss_nil)
      (pss_one (ps_ret (pe_tup (pa_cons pe_str (pa_cons pe_int (pa_cons (pv 5) pa_nil)))))))))))))), ?_⟩
    -- letters
    refine ⟨rfl, _, rfl, F, C, ns, 5, rfl, by decide, by decide, hl, fd, fun r2 H2 r20 r21 fd2 ev2 => ⟨_, _, rfl, rfl, 1 + r2, rfl, by omega, by omega, fun L nL => ?_⟩⟩
    have e2 := ev2.evs fd fd2
    have nL0 : H L = none := e2.th L nL
    have LF := (fd2.apart nL).1
    have LC := (fd2.apart nL).2
    refine lc_range (n := (1 + r2).toNat) (fun i Hc => Fd F C ns Hc ∧ Evs [F] H Hc ∧ ∃ l : List Nat, Hc L = some (.lst ((l.map one).map V.str)) ∧ l.length = i ∧ ∀ c ∈ l, (97 ≤ c ∧ c ≤ 122) ∨ c = 32)
      ⟨fd2.new nL, e2.put nL0, [], upd_same, rfl, fun z hz => by cases hz⟩ (fun i Hc hi pv => ?_) (fun Hc pv => ?_)
    · obtain ⟨fc, ec, l, hL, hll, hla⟩ := pv
      refine ⟨wipe_set _ 9 _, ?_⟩
      simp only [tYes, if_true]
      refine ⟨_, rfl, _, rfl, F, C, ns, 27, rfl, by decide, by decide, hl, fc, fun r5 H5 r50 r51 fd5 ev5 => ?_⟩
      obtain ⟨sg, hsg, _⟩ := sign_at abcb_asc r50 (by rw [abcb_len]; exact r51)
      have hL5 : H5 L = some (.lst ((l.map one).map V.str)) := ev5 L _ hL LF
      refine ⟨_, r5, sg, rfl, rfl, abcb_asc.line (by decide), hsg, _, hL5, by rw [List.length_map, List.length_map]; exact small1000 (by omega), fd5.over hL5 LF LC, (ec.trans (ev5.evs fc fd5)).put nL0, l ++ [sg], ?_, ?_, fun z hz => ?_⟩
      · rw [upd_same, List.map_append, List.map_append]; rfl
      · rw [List.length_append, hll]; rfl
      · rcases List.mem_append.mp hz with h | h
        · exact hla z h
        · rw [List.mem_singleton.mp h]; exact abcb_low sg (at_mem hsg)
    · obtain ⟨fc, ec, l, hL, hll, hla⟩ := pv
      refine ⟨_, L, l.map one, rfl, rfl, .inl (.inl (.inl hL)), ?_, ?_⟩
      · have h1 : ((l.map one).map (·.length)).sum ≤ (l.map one).length := sum_le_len fun y hy => by
          obtain ⟨c, _, rfl⟩ := List.mem_map.mp hy
          exact Nat.le_refl 1
        have h2 : (Str.ofString "").length = 0 := by decide +kernel
        rw [List.length_map] at h1
        rw [h2, Nat.mul_zero]
        omega
      have ejoin : Txt.join (Str.ofString "") (l.map one) = Str.join Str.empty (l.map one) := by
        rw [TL.join_eq]
        have : Str.ofString "" = Str.empty := by decide +kernel
        rw [this]
      rw [ejoin]
      have ez : (Str.join Str.empty (l.map one)).cps.toList = l := join_ones l
      generalize Str.join Str.empty (l.map one) = let_ at ez ⊢
      have lt : Ltr let_ := ⟨by rw [str_len, ez]; omega, by rw [str_len, ez]; omega, by rw [ez]; exact hla⟩
      clear ejoin ez hL hll hla nL nL0 LF LC
      -- way
      refine ⟨_, rfl, F, C, ns, 6, rfl, by decide, by decide, hl, fc, fun r6 H6 r60 r61 fd6 ev6 => ?_⟩
      have e6 := ec.trans (ev6.evs fc fd6)
      have wd6 : Wd K a cs H6 := evF wd fd ap e6
      have hfl6 : H6 fl = some (.lst (bf.map V.ref)) := e6.ev _ _ hfl (by simpa using flF)
      have nf6 : Nms H6 floor bf := Nms.evs e6 nf
      -- sorts
      refine ⟨_, rfl, fl, rfl, ⟨_, .inl (.inl hfl6)⟩, fun Ls nLs => ?_⟩
      have bfl : bf.length = floor.length := nf.len.symm
      have flLs : fl ≠ Ls := ne_of_none hfl6 nLs
      refine lc_list (a := fl) (xs := bf.map V.ref) (fun i Hc => Evs [] H6 Hc ∧ Hc Ls = some (.lst ((floor.take i).map fun n => V.str (kindN cs n))))
        ⟨Evs.new nLs, upd_same⟩ (fun i Hc _ pv => .inl (.inl (pv.1.ev _ _ hfl6 List.not_mem_nil))) (fun i x Hc hx pv => ?_) (fun Hc pv => ?_)
      · obtain ⟨ec, hLs⟩ := pv
        refine ⟨wipe_set _ 10 _, ?_⟩
        simp only [tYes, if_true]
        rw [List.getElem?_map] at hx
        obtain ⟨b, hb, rfl⟩ := Option.map_eq_some_iff.mp hx
        obtain ⟨n, hn, an⟩ := nf6.at hb
        have wdc := ev0 wd6 ec
        obtain ⟨kw, w1, w2, _⟩ := wdc.w
        obtain ⟨k1, ch, v, p1, hf, hv, dv⟩ := get1 wdc (sub n (List.mem_of_getElem? hn))
        obtain ⟨qv, v0, v2, v3, rfl, sq, _, _, d3⟩ := ch_parts dv
        obtain ⟨q3, us, rfl, sq3⟩ := deed_parts d3
        refine ⟨_, rfl, a.W, _, rfl, dg (k := kCh) w1 w2, _, rfl, a.A1, _, rfl, dgT p1 (an.evs ec) hv, qv, _, 3, _, rfl, rfl, sq, rfl, q3, _, 0, _, rfl, rfl, sq3, at0, _, hLs, small1000 (by rw [List.length_map, List.length_take]; omega), ec.put nLs, ?_⟩
        rw [upd_same, take_snoc hn, List.map_append]
        have : kindN cs n = kindS ch.deed := by unfold kindN; rw [hf]; rfl
        rw [← this]
        rfl
      obtain ⟨ec7, hLs⟩ := pv
      rw [List.length_map, bfl, List.take_length] at hLs
      have fd7 := fd0 fd6 ec7
      have e7 := e6.trans (ec7.mono (T := [F]) fun b hb => by cases hb)
      have wd7 := ev0 wd6 ec7
      have hfl7 := ec7.ev _ _ hfl6 List.not_mem_nil
      have nf7 := Nms.evs ec7 nf6
      have hLs7 := hLs
      -- hangs
      refine ⟨_, rfl, fl, _, rfl, .inl (.inl (.inl hfl7)), _, rfl, by rw [List.length_map]; omega, by rw [List.length_map]; omega, fun Lh nLh => ?_⟩
      refine lc_range (n := (bf.map V.ref).length) (fun i Hc => Evs [] Hc Hc ∧ Evs [] H6 Hc ∧ (∃ hs hb, Hc Lh = some (.lst (hb.map V.ref)) ∧ Nms Hc hs hb ∧ hs.length ≤ i ∧ ∀ n ∈ hs, n ∈ floor ∧ kindAt cs n "hang") ∧ Hc Ls = some (.lst (floor.map fun n => V.str (kindN cs n))) ∧ Hc fl = some (.lst (bf.map V.ref)) ∧ Fd F C ns Hc ∧ Evs [F] H Hc)
        ⟨Evs.refl _ _, ec7.put (ec7.th Lh nLh), ⟨[], [], upd_same, .nil, Nat.le_refl _, fun n hn => by cases hn⟩, by rw [upd_ne (ne_of_none hLs nLh)]; exact hLs, by rw [upd_ne (ne_of_none hfl7 nLh)]; exact hfl7, fd7.new nLh, e7.put (e7.th Lh nLh)⟩ (fun i Hc hi pv => ?_) (fun Hc pv => ?_)
      · obtain ⟨_, ec, ⟨hs, hb, hLh, nh, hlen, hh⟩, hLs, hfl, fdc, efc⟩ := pv
        refine ⟨wipe_set _ 9 _, ?_⟩
        have hi' : i < bf.length := by simpa using hi
        have hif : i < floor.length := by omega
        have hn : floor[i]? = some floor[i] := List.getElem?_eq_getElem hif
        have hbi : bf[i]? = some bf[i] := List.getElem?_eq_getElem hi'
        obtain ⟨n', hn', an⟩ := nf6.at hbi
        rw [hn] at hn'
        cases hn'
        have e1 : atI (floor.map fun n => V.str (kindN cs n)) (0 + (i : Int)) = some (V.str (kindN cs floor[i])) := by
          rw [Int.zero_add]; exact atI_nat (by rw [List.getElem?_map, hn]; rfl)
        have e2 : atI (bf.map V.ref) (0 + (i : Int)) = some (V.ref bf[i]) := by
          rw [Int.zero_add]; exact atI_nat (by rw [List.getElem?_map, hbi]; rfl)
        refine ⟨_, rfl, _, rfl, Ls, _, _, _, rfl, rfl, .inl (.inl hLs), e1, rfl, _, rfl, ite2 (fun hk => ?_) (fun _ => ?_)⟩
        · have hk' : kindN cs floor[i] = Str.ofString "hang" := V.str.inj (of_decide_eq_true hk)
          refine ⟨_, rfl, _, rfl, fl, _, _, _, rfl, rfl, .inl (.inl hfl), e2, _, hLh, small1000 (by rw [List.length_map, ← nh.len]; omega), ?_⟩
          have nLh6 : H6 Lh = none := ec7.th Lh nLh
          have uL : Ls ≠ Lh := ne_of_none hLs7 nLh
          have uf : fl ≠ Lh := ne_of_none hfl7 nLh
          refine ⟨Evs.refl _ _, ec.put nLh6, ⟨hs ++ [floor[i]], hb ++ [bf[i]], by rw [upd_same, List.map_append]; rfl, ?_, by rw [List.length_append, List.length_singleton]; omega, fun n hn => ?_⟩, by rw [upd_ne uL]; exact hLs, by rw [upd_ne uf]; exact hfl, ?_, efc.put (e7.th Lh nLh)⟩
          · exact Nms.evs (Evs.own (S := [Lh]) (by simp) hLh (fun xs z => by cases z) (fun ob y z => by cases z)) (nh.snoc (an.evs ec))
          · rcases List.mem_append.mp hn with h | h
            · exact hh n h
            · rw [List.mem_singleton.mp h]
              exact ⟨List.getElem_mem hif, kindN_at (sub _ (List.getElem_mem hif)) hk'⟩
          · exact fdc.over hLh (fd7.apart nLh).1 (fd7.apart nLh).2
        · exact ⟨Evs.refl _ _, ec, ⟨hs, hb, hLh, nh, by omega, hh⟩, hLs, hfl, fdc, efc⟩
      · obtain ⟨_, ec, ⟨hs, hb, hLh, nh, hlen, hh⟩, hLs, hfl, fdc, efc⟩ := pv
        have wdc := ev0 wd6 ec
        have htbc := efc.tp _ _ htb
        have rest : ∀ Hc, Fd F C ns Hc → Evs [F] H Hc → ∀ p, Hc p = none → Q (.ref p) (upd Hc p (.tup [V.str (Str.ofString "put"), V.int 0, V.str let_])) := fun Hc fdc efc p np =>
          q (.put let_) _ _ lt (.tup (.inl (.inl upd_same)) (.cons (.str _) (.cons (.int _) (.cons (.str _) .nil)))) (fdc.new np) (efc.put (efc.th p np))
        apply byR
        · intro rest2
          refine ⟨_, rfl, rfl, _, rfl, ite2 (fun _ => ?_) (fun _ => iteF rest2)⟩
          refine ⟨_, rfl, tb, _, rfl, .inr (.inl (.inl htbc)), _, _, rfl, rfl, _, rfl, ite2 (fun hgt => ?_) (fun _ => rest2)⟩
          refine ⟨(by show 1 ≤ sizeLine; decide), fun p np => q .join _ _ ?_ (.tup (.inl (.inl upd_same)) (.cons (.str _) .nil)) (fdc.new np) (efc.put (efc.th p np))⟩
          have := of_decide_eq_true hgt
          rw [List.length_map] at this
          show 1 < base.length
          rw [nb.len]
          omega
        · apply byR
          · intro rest3
            refine ⟨_, rfl, rfl, _, rfl, ite2 (fun _ => ?_) (fun _ => iteF rest3)⟩
            refine ⟨_, rfl, Ls, _, rfl, .inl (.inl (.inl hLs)), rfl, ?_, _, rfl, ite2 (fun hin => ?_) (fun _ => iteF rest3)⟩
            · rw [List.all_eq_true]
              intro v hv
              obtain ⟨n, _, rfl⟩ := List.mem_map.mp hv
              rfl
            obtain ⟨kw, w1, _, _, _, w5⟩ := wdc.w
            obtain ⟨b4, p4, _⟩ := wdc.c4
            refine ⟨_, rfl, a.W, _, rfl, dg (k := kHa) w1 w5, a.A4, _, rfl, .inl (.inl (.inl p4)), _, _, rfl, rfl, _, rfl, ite2 (fun _ => ?_) (fun _ => rest3)⟩
            have put_in : ∃ n ∈ floor, kindAt cs n "put" := by
              have hin' : inV (.str (Str.ofString "put")) (floor.map fun n => V.str (kindN cs n)) = true := hin
              unfold inV at hin'
              obtain ⟨v, hv, hev⟩ := List.any_eq_true.mp hin'
              obtain ⟨n, hn, rfl⟩ := List.mem_map.mp hv
              refine ⟨n, hn, kindN_at (sub n hn) ?_⟩
              have : (kindN cs n == Str.ofString "put") = true := hev
              exact eq_of_beq this
            refine ⟨(by show 2 ≤ sizeLine; decide), fun p np => ?_⟩
            have np0 := efc.th p np
            refine ⟨_, rfl, F, C, ns, 2, rfl, by decide, by decide, hl, fdc.new np, fun rz Hz rz0 rz1 fdz evz => ?_⟩
            have ez := (efc.put (o := .lst [V.str (Str.ofString "shut"), V.str (Str.ofString "wide")]) np0).trans (evz.evs (fdc.new np) fdz)
            have hpz := evz p _ upd_same (fdc.apart np).1
            obtain ⟨v, hv, hmem, _⟩ := val_at (xs := [V.str (Str.ofString "shut"), V.str (Str.ofString "wide")]) rz0 rz1
            obtain ⟨wi, rfl⟩ : ∃ wi : Bool, v = .str (Str.ofString (if wi then "wide" else "shut")) := by
              simp only [List.mem_cons, List.not_mem_nil, or_false] at hmem
              rcases hmem with h | h
              · exact ⟨false, h⟩
              · exact ⟨true, h⟩
            refine ⟨p, _, rz, _, rfl, rfl, .inl (.inl hpz), hv, _, rfl, (by show 5 ≤ sizeLine; decide), fun p2 np2 => q (.hang wi let_) _ _ ⟨lt, put_in⟩ (.tup (.inl (.inl upd_same)) (.cons (.str _) (.cons (.int _) (.cons (.int _) (.cons (.str _) (.cons (.str _) .nil)))))) (fdz.new np2) (ez.put (ez.th p2 np2))⟩
          · refine ⟨_, rfl, rfl, _, rfl, ite2 (fun _ => ?_) (fun _ => iteF ⟨_, rfl, (by show 3 ≤ sizeLine; decide), rest _ fdc efc⟩)⟩
            refine ⟨_, rfl, Nat.zero_le _, fun p np => ?_⟩
            have np0 := efc.th p np
            have k0 : Evs [F] Hc (upd Hc p (.lst [])) := Evs.new np
            have hLh' : (upd Hc p (.lst [])) Lh = some (.lst (hb.map V.ref)) := by rw [upd_ne (ne_of_none hLh np)]; exact hLh
            have nh' := Nms.evs k0 nh
            refine ⟨.list (hs.map nmD), .list [], .lst (.inl (.inl hLh')) nh'.dpAll, .lst (.inl (.inl upd_same)) .nil, shNms (fun n hn => wrd n (hh n hn).1), by decide +kernel, _, rfl, ?_⟩
            rw [eqvNilN]
            by_cases h0 : hs = []
            · rw [decide_eq_true h0]
              exact iteF ⟨_, rfl, (by show 3 ≤ sizeLine; decide), rest _ (fdc.new np) (efc.put np0)⟩
            · rw [decide_eq_false h0]
              refine iteT ?_
              have hpos : 0 < hb.length := by
                rw [← nh.len]
                exact List.length_pos_iff.mpr h0
              refine ⟨_, rfl, _, rfl, _, rfl, Lh, _, rfl, .inl (.inl (.inl hLh')), F, C, ns, _, rfl, by rw [List.length_map]; omega, by rw [List.length_map, ← nh.len]; rw [List.length_map] at hlen; omega, hl, fdc.new np, fun rz Hz rz0 rz1 fdz evz => ?_⟩
              have ez := (efc.put (o := .lst []) np0).trans (evz.evs (fdc.new np) fdz)
              have hLz := evz Lh _ hLh' (fun z => by
                obtain ⟨kvs, hF, _⟩ := fdc.ex
                rw [z, hF] at hLh
                cases hLh)
              obtain ⟨v, hv, hmem, hat⟩ := val_at (xs := hb.map V.ref) rz0 rz1
              rw [List.getElem?_map] at hat
              obtain ⟨bq, hbq, rfl⟩ := Option.map_eq_some_iff.mp hat
              obtain ⟨n, hn, an⟩ := nh'.at hbq
              have anz := an.evs (evz.evs (fdc.new np) fdz)
              have hn' := hh n (List.mem_of_getElem? hn)
              refine ⟨Lh, _, rz, _, rfl, rfl, .inl (.inl hLz), hv, _, rfl, (by show 3 ≤ sizeLine; decide), fun p2 np2 => q (.answer n let_) _ _ ⟨lt, hn'.1, hn'.2⟩ (.tup (.inl (.inl upd_same)) (.cons (.str _) (.cons (NmA.dp (anz.evs (Evs.new (S := []) np2))) (.cons (.str _) .nil)))) (fdz.new np2) (ez.put (ez.th p2 np2))⟩
end
end K06

set_option maxHeartbeats 4000000
namespace K06
open PySem PySem.Spec PyProof.Rows L2 Mw
abbrev sStep : Stmt := topS 7
theorem scStep : FnScope ["_law_feed_here", "_law_world_here", "_law_words_here", "_law_branch", "_law_names_here", "_law_grounds", "_law_wanted", "_law_one", "_law_name", "_law_floor", "_law_below", "_law_base", "_law_own", "_law_deed_here"] ["_law_feed_here", "_law_world_here", "_law_words_here"] (defScope sStep) := ⟨rfl, rfl, rfl, by decide +kernel, rfl, by decide +kernel, by decide +kernel⟩
def spStep (K : PySem.W.Frag) : Sp := fun vs H Q _ => ∃ (F C : Addr) (ns : List Int) (a : Wa) (cs : List Ch) (wl : Addr) (ws : List Str), vs = [.ref F, .ref a.W, .ref wl] ∧ ns.length ≤ 63 ∧ Fd F C ns H ∧ Apart F C a ∧ Wd K a cs H ∧
  H wl = some (.lst (ws.map V.str)) ∧ 0 < ws.length ∧ ws.length ≤ 6 ∧ (∀ z ∈ ws, Wrd z) ∧ Wr ws cs ∧ cs.length ≤ 50 ∧ wl ≠ a.A4 ∧
  ∀ (c : Ch) (H' : Hp), StepOk ws cs c → Fd F C ns H' → Wd K a (cs ++ [c]) H' → Evs [F, a.A1, a.A2, a.A3, a.A4] H H' → Q .non H'
section
variable {P : Program} {w : World} {K : PySem.W.Frag} {mg : Str → Option Value} {base : Heap}
theorem ok_step {f c fD fE : Addr} {fd fdD fdE : FuncData} (D : Def K "_law_step" sStep f c fd) (t : Txt mg) (kD : PySem.W.keepIn K (.ref fD) = true) (bD : Binds K fdD ["_law_feed_here", "_law_many"] []) (gD : mg "_law_draw" = some (.ref fD))
    (GD : FnOk P w K mg base CX0 1 fD fdD ["_law_feed_here", "_law_many"] spDraw) (kE : PySem.W.keepIn K (.ref fE) = true) (bE : Binds K fdE ["_law_feed_here", "_law_world_here", "_law_base", "_law_floor"] []) (gE : mg "_law_deed" = some (.ref fE))
    (GE : FnOk P w K mg base CX0 2 fE fdE ["_law_feed_here", "_law_world_here", "_law_base", "_law_floor"] (spDeed K)) : FnOk P w K mg base CX0 3 f fd ["_law_feed_here", "_law_world_here", "_law_words_here"] (spStep K) := by
  refine D.ok scStep (fun vs H Q E h => ?_) (fun A outer s H vs Q E hr h => ?_)
  · obtain ⟨F, C, ns, a, cs, wl, ws, rfl, _⟩ := h
    rfl
  · obtain ⟨F, C, ns, a, cs, wl, ws, rfl, hl, fd, ap, wd, hwl, w0, w6, wrd, wr, c50, wlA, q⟩ := h
    have hr1 : Room 1 _ := hr.mono (by decide)
    have hr2 : Room 2 _ := hr
    have hu := hu_of hr
    have hu64 := hr.units
    have hu16 := r16 hr
    refine ⟨_, (pss_cons (ps_set (i := 3) scStep.nd rfl (by first | exact Or.inl rfl | exact Or.inr rfl) (pe_ix (show IxR _ (rIxL K) from ix_list) (pv 2) (pe_call GD hr1 (by rfl) gD kD bD .nil pass0 (pa_cons (pv 0) (pa_cons (pe_callB call_len_seq (by rfl) t.len PySem.boot_len (pa_cons (pv 2) pa_nil)) pa_nil))) (fun _ _ => rfl)))
      (pss_cons (ps_set (i := 4) scStep.nd rfl (by first | exact Or.inl rfl | exact Or.inr rfl) (pe_callB (call_sortT rfl hu16) (by rfl) t.sorted boot_sorted (pa_cons (pe_dget hu (pv 1) pe_str (fun _ _ => rfl)) pa_nil)))
      (pss_cons (ps_set (i := 5) scStep.nd rfl (by first | exact Or.inl rfl | exact Or.inr rfl) (pe_ifExp (pt_cmp (pc_din hu (pv 3) (pe_dget hu (pv 1) pe_str (fun _ _ => rfl)))) (pe_lst (pa_cons (pe_dget hu (pe_dget hu (pv 1) pe_str (fun _ _ => rfl)) (pv 3) (fun _ _ => rfl)) pa_nil)) (pe_lst pa_nil)))
      (pss_cons (ps_if (PW.pt (pw_and (pt_cmpR (op_neD hu64) (pv 4) (pe_lst pa_nil) (nomark _)) (pw_and1 (pt_cmpR op_lt (pe_call GD hr1 (by rfl) gD kD bD .nil pass0 (pa_cons (pv 0) (pa_cons pe_int pa_nil))) pe_int (nomark _)))))
        (pss_one (ps_expr (pe_bm PySem.F.plainAttrs_list PySem.F.slot_list_append PySem.F.type_list_append mt_append (pv 5) (pa_cons (pe_ix (show IxR _ (rIxL K) from ix_list) (pv 4) (pe_call GD hr1 (by rfl) gD kD bD .nil pass0 (pa_cons (pv 0) (pa_cons (pe_callB call_len_seq (by rfl) t.len PySem.boot_len (pa_cons (pv 4) pa_nil)) pa_nil))) (fun _ _ => rfl)) pa_nil))))
        pss_nil)
      (pss_cons (ps_set (i := 6) scStep.nd rfl (by first | exact Or.inl rfl | exact Or.inr rfl) pe_dnewT)
      (pss_cons (ps_for PassesOwn.never rfl (pi_list (pv 5)) (pg_name (i := 7) scStep.nd rfl (Or.inl rfl))
        (pss_one (ps_for PassesOwn.never rfl (pi_list (pe_op op_cat (pe_dget hu (pe_dget hu (pv 1) pe_str (fun _ _ => rfl)) (pv 7) (fun _ _ => rfl)) (pe_lst (pa_cons (pv 7) pa_nil)))) (pg_name (i := 8) scStep.nd rfl (Or.inl rfl))
        (pss_one (ps_dput hu (pv 6) (pv 8) pe_bl rfl)))))
      (pss_cons (ps_set (i := 9) scStep.nd rfl (by first | exact Or.inl rfl | exact Or.inr rfl) (pe_callB (call_sortT rfl hu16) (by rfl) t.sorted boot_sorted (pa_cons (pv 6) pa_nil)))
      (pss_cons (ps_set (i := 10) scStep.nd rfl (by first | exact Or.inl rfl | exact Or.inr rfl) pe_dnewT)
      (pss_cons (ps_for PassesOwn.never rfl (pi_list (pv 9)) (pg_name (i := 8) scStep.nd rfl (Or.inl rfl))
        (pss_one (ps_for PassesOwn.never rfl (pi_list (pe_dget hu (pe_dget hu (pv 1) pe_str (fun _ _ => rfl)) (pv 8) (fun _ _ => rfl))) (pg_name (i := 7) scStep.nd rfl (Or.inl rfl))
        (pss_one (ps_dput hu (pv 10) (pv 7) pe_bl rfl)))))
      (pss_cons (ps_set (i := 11) scStep.nd rfl (by first | exact Or.inl rfl | exact Or.inr rfl) (pe_callTy call_tuple_of (by rfl) t.tup PyProof.Rows.boot_tuple (pa_cons (pe_lc (own := [("_law_name", 8)]) (g := gName 8) rfl scStep.nd (pi_list (pv 9)) (blkOk_by (N := ["_law_feed_here", "_law_world_here", "_law_words_here", "_law_branch", "_law_names_here", "_law_grounds", "_law_wanted", "_law_one", "_law_name", "_law_floor", "_law_below", "_law_base", "_law_own", "_law_deed_here"]) (sc := defScope sStep) (by decide +kernel)) (fun _ _ _ _ _ => (pg_name (i := 8) scStep.nd rfl (Or.inl rfl))) (fun _ _ _ _ _ => (pts_one (pt_cmp (pc_dnotin hu (pv 8) (pv 10))))) (fun _ _ _ _ _ => (pv 8))) pa_nil)))
      (pss_cons (ps_set (i := 12) scStep.nd rfl (by first | exact Or.inl rfl | exact Or.inr rfl) (pe_tup (pa_cons (pe_op op_add pe_int (pe_callBK (call_maxDef rfl hu64) (by rfl) t.max boot_max (pa_cons (pe_lc (own := [("_law_name", 8)]) (g := gName 8) (tt := tYes) rfl scStep.nd (pi_list (pv 9)) (blkOk_by (N := ["_law_feed_here", "_law_world_here", "_law_words_here", "_law_branch", "_law_names_here", "_law_grounds", "_law_wanted", "_law_one", "_law_name", "_law_floor", "_law_below", "_law_base", "_law_own", "_law_deed_here"]) (sc := defScope sStep) (by decide +kernel)) (fun _ _ _ _ _ => (pg_name (i := 8) scStep.nd rfl (Or.inl rfl))) (fun _ _ _ _ _ => pts_nil) (fun _ _ _ _ _ => (pe_ix (show IxR _ (rIxT K) from ix_tup) (pv 8) pe_int (fun _ _ => rfl)))) pa_nil) (pk_cons pe_int pk_nil))) (pa_cons (pv 3) pa_nil))))
      (pss_cons (ps_set (i := 13) scStep.nd rfl (by first | exact Or.inl rfl | exact Or.inr rfl) (pe_call GE hr2 (by rfl) gE kE bE .nil pass0 (pa_cons (pv 0) (pa_cons (pv 1) (pa_cons (pv 11) (pa_cons (pv 9) pa_nil))))))
      (pss_cons (ps_if (pt_cmpR op_eq (pe_ix (show IxR _ (rIxT K) from ix_tup) (pv 13) pe_int (fun _ _ => rfl)) pe_str (nomark _))
        (pss_one (ps_expr (pe_bm PySem.F.plainAttrs_list PySem.F.slot_list_append PySem.F.type_list_append mt_append (pe_dget hu (pv 1) pe_str (fun _ _ => rfl)) (pa_cons (pv 12) pa_nil))))
        pss_nil)
      (pss_cons (ps_dput hu (pe_dget hu (pv 1) pe_str (fun _ _ => rfl)) (pv 12) (pe_tup (pa_cons (pv 12) (pa_cons (pe_ix (show IxR _ (rIxL K) from ix_list) (pv 2) (pe_call GD hr1 (by rfl) gD kD bD .nil pass0 (pa_cons (pv 0) (pa_cons (pe_callB call_len_seq (by rfl) t.len PySem.boot_len (pa_cons (pv 2) pa_nil)) pa_nil))) (fun _ _ => rfl)) (pa_cons (pv 11) (pa_cons (pv 13) pa_nil))))) rfl)
      (pss_cons (ps_dput hu (pe_dget hu (pv 1) pe_str (fun _ _ => rfl)) (pv 12) (pv 9) rfl)
      (pss_one (ps_dput hu (pe_dget hu (pv 1) pe_str (fun _ _ => rfl)) (pv 3) (pv 12) rfl))))))))))))))))), ?_⟩
    have nmw : ∀ n ∈ names cs, Wrd n.2 := fun n hn => wrd _ (br_in wr n hn)
    obtain ⟨kvF, hFF, _⟩ := fd.ex
    have wlF : wl ≠ F := ne_of hwl hFF (fun z => by cases z)
    -- the branch
    refine ⟨_, rfl, _, rfl, _, rfl, wl, _, rfl, .inl (.inl (.inl hwl)), F, C, ns, _, rfl, by rw [List.length_map]; omega, by rw [List.length_map]; omega, hl, fd, fun r1 H1 r10 r11 fd1 ev1 => ?_⟩
    have e1 := ev1.evs fd fd1
    have hwl1 := ev1 _ _ hwl wlF
    have wd1 := evF wd fd ap e1
    obtain ⟨v, hv, hmem, _⟩ := val_at (xs := ws.map V.str) r10 r11
    obtain ⟨br, hbr, rfl⟩ := List.mem_map.mp hmem
    refine ⟨wl, _, r1, _, rfl, rfl, .inl (.inl hwl1), hv, ?_⟩
    clear hv hmem
    -- the names
    obtain ⟨kw, w1, w2, w3, w4, w5⟩ := wd1.w
    obtain ⟨k1, p1, p2⟩ := wd1.c1
    obtain ⟨k3, s1, s2, s3⟩ := wd1.c3
    refine ⟨_, rfl, a.W, _, rfl, dg (k := kCh) w1 w2, a.A1, k1, names cs, rfl, p1, pair_keys (P := fun c v => Dp K H1 v (chD c)) p2, fun Ln bn nLn nmn => ?_⟩
    have e2 : Evs [F] H (upd H1 Ln (.lst (bn.map V.ref))) := e1.put (e1.th Ln nLn)
    have e12 : Evs [] H1 (upd H1 Ln (.lst (bn.map V.ref))) := Evs.new nLn
    have fd2 := fd1.new (o := .lst (bn.map V.ref)) nLn
    have hLn : (upd H1 Ln (.lst (bn.map V.ref))) Ln = some (.lst (bn.map V.ref)) := upd_same
    generalize upd H1 Ln (.lst (bn.map V.ref)) = H2 at e2 e12 fd2 hLn ⊢
    have wd2 := ev0 wd1 e12
    have nmn2 := Nms.evs e12 nmn
    have w12 := e12.ev _ _ w1 List.not_mem_nil
    have s12 := e12.ev _ _ s1 List.not_mem_nil
    -- the grounds: the branch's last one
    apply byC2 (Fa := fun Lg Hc => ∃ (gs : List Nm) (bg : List Addr), H2 Lg = none ∧ Hc Lg = some (.lst (bg.map V.ref)) ∧ Nms Hc gs bg ∧ gs.length ≤ 1 ∧ (∀ g ∈ gs, g ∈ names cs) ∧ (∀ n, lastOf br cs = some n → n ∈ gs) ∧ Evs [] H2 Hc)
    · intro rest
      refine ⟨_, rfl, _, rfl, a.W, _, rfl, dg (k := kLa) w12 w4, a.A3, _, rfl, DGet.k (k := Sum.inr br) s12, _, rfl, ?_⟩
      rcases s3 br with ⟨h1, h2⟩ | ⟨n, b, h1, h2, h3⟩
      · rw [h2]
        refine iteF ⟨Nat.zero_le _, fun Lg nLg => ?_⟩
        have fa : ∃ (gs : List Nm) (bg : List Addr), H2 Lg = none ∧ (upd H2 Lg (.lst [])) Lg = some (.lst (bg.map V.ref)) ∧ Nms (upd H2 Lg (.lst [])) gs bg ∧ gs.length ≤ 1 ∧ (∀ g ∈ gs, g ∈ names cs) ∧ (∀ n, lastOf br cs = some n → n ∈ gs) ∧ Evs [] H2 (upd H2 Lg (.lst [])) :=
          ⟨[], [], nLg, upd_same, .nil, Nat.zero_le _, (fun g hg => by cases hg), (fun n hn => by rw [h1] at hn; cases hn), Evs.new nLg⟩
        generalize upd H2 Lg (.lst []) = H3 at fa ⊢
        exact rest Lg H3 fa
      · rw [h2]
        refine iteT ⟨_, rfl, a.W, _, rfl, dg (k := kLa) w12 w4, _, rfl, a.A3, .ref b, rfl, dg (k := Sum.inr br) s12 h2, (by show 1 ≤ sizeLine; decide), fun Lg nLg => ?_⟩
        have fa : ∃ (gs : List Nm) (bg : List Addr), H2 Lg = none ∧ (upd H2 Lg (.lst [V.ref b])) Lg = some (.lst (bg.map V.ref)) ∧ Nms (upd H2 Lg (.lst [V.ref b])) gs bg ∧ gs.length ≤ 1 ∧ (∀ g ∈ gs, g ∈ names cs) ∧ (∀ n, lastOf br cs = some n → n ∈ gs) ∧ Evs [] H2 (upd H2 Lg (.lst [V.ref b])) :=
          ⟨[n], [b], nLg, upd_same, .cons ((h3.evs e12).evs (Evs.new (S := []) nLg)) .nil, Nat.le_refl _, (fun g hg => by rw [List.mem_singleton.mp hg]; exact last_in br cs h1), (fun m hm => by rw [h1] at hm; cases hm; simp), Evs.new nLg⟩
        generalize upd H2 Lg (.lst [V.ref b]) = H3 at fa ⊢
        exact rest Lg H3 fa
    intro Lg H3 fa
    obtain ⟨gs0, bg0, nLg, hLg, ng, gl, gsub, glast, e23⟩ := fa
    have e3 := e2.trans (e23.mono (T := [F]) fun b hb => by cases hb)
    have fd3 := fd0 fd2 e23
    have wd3 := ev0 wd2 e23
    have LgF := (fd2.apart nLg).1
    have LgC := (fd2.apart nLg).2
    have hLn3 := e23.ev _ _ hLn List.not_mem_nil
    have nmn3 := Nms.evs e23 nmn2
    have nLgH : H Lg = none := e2.th Lg nLg
    -- perhaps another one
    apply byC (Fa := fun Hc => ∃ (gs : List Nm) (bg : List Addr), Hc Lg = some (.lst (bg.map V.ref)) ∧ Nms Hc gs bg ∧ gs.length ≤ 2 ∧ (∀ g ∈ gs, g ∈ names cs) ∧ (∀ n, lastOf br cs = some n → n ∈ gs) ∧ Fd F C ns Hc ∧ Evs [F] H Hc)
    · intro rest
      refine ⟨_, rfl, Nat.zero_le _, fun p np => ?_⟩
      have k3' : Evs [F] H3 (upd H3 p (.lst [])) := Evs.new np
      have fd4 := fd3.new (o := .lst []) np
      have e4 : Evs [F] H (upd H3 p (.lst [])) := e3.trans k3'
      have hLn4 : (upd H3 p (.lst [])) Ln = some (.lst (bn.map V.ref)) := by rw [upd_ne (ne_of_none hLn3 np)]; exact hLn3
      have hLg4 : (upd H3 p (.lst [])) Lg = some (.lst (bg0.map V.ref)) := by rw [upd_ne (ne_of_none hLg np)]; exact hLg
      have hp4 : (upd H3 p (.lst [])) p = some (.lst []) := upd_same
      have nm4 := Nms.evs k3' nmn3
      have ng4 := Nms.evs k3' ng
      generalize upd H3 p (.lst []) = H4 at fd4 e4 hLn4 hLg4 hp4 nm4 ng4 ⊢
      refine ⟨.list ((srt (names cs)).map nmD), .list [], .lst (.inl (.inl hLn4)) nm4.dpAll, .lst (.inl (.inl hp4)) .nil, shNms (fun n hn => nmw n (mem_srt.mp hn)), by decide +kernel, _, rfl, ?_⟩
      rw [eqvNilN]
      by_cases h0 : srt (names cs) = []
      · rw [decide_eq_true h0]
        exact iteF (rest H4 ⟨gs0, bg0, hLg4, ng4, by omega, gsub, glast, fd4, e4⟩)
      · rw [decide_eq_false h0]
        refine iteT ⟨_, rfl, F, C, ns, 5, rfl, by decide, by decide, hl, fd4, fun r5 H5 r50 r51 fd5 ev5 => ?_⟩
        have e45 := ev5.evs fd4 fd5
        have hLn5 := ev5 _ _ hLn4 (fun z => by
          obtain ⟨kv, hF, _⟩ := fd4.ex
          rw [z, hF] at hLn4
          cases hLn4)
        have hLg5 := ev5 _ _ hLg4 LgF
        refine ⟨_, _, rfl, rfl, _, rfl, ite2 (fun _ => ?_) (fun _ => rest H5 ⟨gs0, bg0, hLg5, Nms.evs e45 ng4, by omega, gsub, glast, fd5, e4.trans e45⟩)⟩
        have npos : 0 < bn.length := by
          rw [← nmn.len]
          exact List.length_pos_iff.mpr h0
        have nl50 : bn.length ≤ 50 := by
          rw [← nmn.len, srt_len, List.length_map]
          exact c50
        refine ⟨_, rfl, .inl ⟨rfl, _, .inl (.inl hLg5)⟩, _, rfl, _, rfl, _, rfl, Ln, _, rfl, .inl (.inl (.inl hLn5)), F, C, ns, _, rfl, by rw [List.length_map]; omega, by rw [List.length_map]; omega, hl, fd5, fun r6 H6 r60 r61 fd6 ev6 => ?_⟩
        have e56 := ev6.evs fd5 fd6
        have hLn6 := ev6 _ _ hLn5 (fun z => by
          obtain ⟨kv, hF, _⟩ := fd5.ex
          rw [z, hF] at hLn5
          cases hLn5)
        have hLg6 := ev6 _ _ hLg5 LgF
        obtain ⟨v, hv, hmem, hat⟩ := val_at (xs := bn.map V.ref) r60 r61
        rw [List.getElem?_map] at hat
        obtain ⟨bq, hbq, rfl⟩ := Option.map_eq_some_iff.mp hat
        obtain ⟨n, hn, an⟩ := nm4.at hbq
        have an6 := (an.evs e45).evs e56
        have ng6 := Nms.evs e56 (Nms.evs e45 ng4)
        have bgl : bg0.length ≤ 1 := by rw [← ng.len]; exact gl
        refine ⟨Ln, _, r6, _, rfl, rfl, .inl (.inl hLn6), hv, Lg, _, _, rfl, rfl, hLg6, small1000 (by rw [List.length_map]; omega), ?_⟩
        have k6 : Evs [F, Lg] H6 (upd H6 Lg (.lst (bg0.map V.ref ++ [V.ref bq]))) := Evs.own (by simp) hLg6 (fun xs z => by cases z) (fun ob y z => by cases z)
        have fin : ∃ (gs : List Nm) (bg : List Addr), (upd H6 Lg (.lst (bg0.map V.ref ++ [V.ref bq]))) Lg = some (.lst (bg.map V.ref)) ∧ Nms (upd H6 Lg (.lst (bg0.map V.ref ++ [V.ref bq]))) gs bg ∧ gs.length ≤ 2 ∧ (∀ g ∈ gs, g ∈ names cs) ∧ (∀ n, lastOf br cs = some n → n ∈ gs) ∧ Fd F C ns (upd H6 Lg (.lst (bg0.map V.ref ++ [V.ref bq]))) ∧ Evs [F] H (upd H6 Lg (.lst (bg0.map V.ref ++ [V.ref bq]))) := by
          refine ⟨gs0 ++ [n], bg0 ++ [bq], by rw [upd_same, List.map_append]; rfl, Nms.evs k6 (ng6.snoc an6), by rw [List.length_append, List.length_singleton]; omega, fun g hg => ?_, fun m hm => List.mem_append_left _ (glast m hm), fd6.over hLg6 LgF LgC, ((e4.trans e45).trans e56).put nLgH⟩
          rcases List.mem_append.mp hg with h | h
          · exact gsub g h
          · rw [List.mem_singleton.mp h]; exact mem_srt.mp (List.mem_of_getElem? hn)
        generalize upd H6 Lg (.lst (bg0.map V.ref ++ [V.ref bq])) = H7 at fin ⊢
        exact rest H7 fin
    intro H4 fa
    clear hLg ng gl gsub glast e23 e3 fd3 wd3 hLn3 nmn3 nmn2 wd2 w12 s12 e2 e12 fd2 hLn s1 s2 s3 p1 p2 w1 w2 w3 w4 w5 nmn nLn
    obtain ⟨gs, bg, hLg, ng, gl, gsub, glast, fd4, e4⟩ := fa
    have wd4 : Wd K a cs H4 := evF wd fd ap e4
    -- all that is wanted
    refine fun Wt nWt => ?_
    have WtF := (fd4.apart nWt).1
    have WtC := (fd4.apart nWt).2
    have nWtH : H Wt = none := e4.th Wt nWt
    have e5 : Evs [F] H (upd H4 Wt (.dT [])) := e4.put nWtH
    have k45 : Evs [] H4 (upd H4 Wt (.dT [])) := Evs.new nWt
    have hW5 : (upd H4 Wt (.dT [])) Wt = some (.dT []) := upd_same
    have fd5 := fd4.new (o := .dT []) nWt
    generalize upd H4 Wt (.dT []) = H5 at e5 k45 hW5 fd5 ⊢
    have wd5 := ev0 wd4 k45
    have hLg5 := k45.ev _ _ hLg List.not_mem_nil
    have ng5 := Nms.evs k45 ng
    have apW : Wt ≠ a.W ∧ Wt ≠ a.A1 ∧ Wt ≠ a.A2 ∧ Wt ≠ a.A3 ∧ Wt ≠ a.A4 := aways wd4 nWt
    have wdW : ∀ Hc, Evs [Wt] H5 Hc → Wd K a cs Hc := fun Hc e => wd5.evs e (fun b hb => by rw [List.mem_singleton.mp hb]; exact apW) (fun b hb xs z => by rw [List.mem_singleton.mp hb, hW5] at z; cases z)
    have LgW : Lg ≠ Wt := ne_of hLg5 hW5 (fun z => by cases z)
    have gath : ∀ l : List Nm, (∀ n ∈ l, n ∈ names cs) → (gather l).length ≤ 50 := fun l h => by
      have := nodup_len (gather_nodup l) (m := names cs) fun n hn => h n (mem_gather.mp hn)
      rw [List.length_map] at this
      omega
    have fsub : ∀ g ∈ gs, ∀ n ∈ knOf cs g ++ [g], n ∈ names cs := fun g hg n hn => by
      rcases List.mem_append.mp hn with h | h
      · exact kn_of_sub wr h
      · rw [List.mem_singleton.mp h]; exact gsub g hg
    refine ⟨_, rfl, Lg, rfl, ⟨_, .inl (.inl hLg5)⟩, for_list (a := Lg) (xs := bg.map V.ref) (fun i σ Hc => ∃ v7 v8, σ = [some (.ref F), some (.ref a.W), some (.ref wl), some (.str br), some (.ref Ln), some (.ref Lg), some (.ref Wt), v7, v8, none, none, none, none, none] ∧ Evs [Wt] H5 Hc ∧
      Hc Wt = some (.dT ((gather ((gs.take i).flatMap fun g => knOf cs g ++ [g])).map yes))) ⟨none, none, rfl, Evs.refl _ _, hW5⟩ (fun i σ Hc _ pv => ?_) (fun i x σ Hc hx pv => ?_) (fun σ Hc pv => ?_)⟩
    · obtain ⟨_, _, _, ec, _⟩ := pv
      exact .inl (.inl (ec.ev _ _ hLg5 (by simpa using LgW)))
    · obtain ⟨v7, v8, rfl, ec, hW⟩ := pv
      rw [List.getElem?_map] at hx
      obtain ⟨b, hb, rfl⟩ := Option.map_eq_some_iff.mp hx
      obtain ⟨g, hg, an⟩ := ng5.at hb
      have gin := List.mem_of_getElem? hg
      have wdc := wdW Hc ec
      obtain ⟨kw, w1, _, w3, _, _⟩ := wdc.w
      obtain ⟨k2, ch, l, bs, q1, hf, hv, _, hl2, nk⟩ := get2 wdc (gsub g gin)
      have an' := an.evs ec
      have ekn : knOf cs g = ch.kn := by unfold knOf; rw [hf]; rfl
      refine ⟨_, rfl, a.W, _, rfl, dg (k := kKn) w1 w3, _, rfl, a.A2, .ref l, rfl, dgT q1 an' hv, _, rfl, (by show 1 ≤ sizeLine; decide), fun p1 np1 => ?_⟩
      have kl : ch.kn.length ≤ 50 := by
        obtain ⟨c', hc'⟩ : ∃ c', c' = ch := ⟨_, rfl⟩
        have hm : ch ∈ cs := List.mem_of_find?_eq_some hf
        exact kn_len wr c50 ch hm
      have bl : bs.length ≤ 50 := by rw [← nk.len]; exact kl
      refine ⟨l, p1, _, _, rfl, rfl, by rw [upd_ne (ne_of_none hl2 np1)]; exact hl2, upd_same, Nat.le_of_lt (small1000 (by rw [List.length_map, List.length_singleton]; omega)), fun p2 np2 => ?_⟩
      have eC1 : Evs [] Hc (upd Hc p1 (.lst [V.ref b])) := Evs.new np1
      have eC : Evs [] Hc (upd (upd Hc p1 (.lst [V.ref b])) p2 (.lst (bs.map V.ref ++ [V.ref b]))) := eC1.trans (Evs.new np2)
      have hp2 : (upd (upd Hc p1 (.lst [V.ref b])) p2 (.lst (bs.map V.ref ++ [V.ref b]))) p2 = some (.lst ((bs ++ [b]).map V.ref)) := by rw [upd_same, List.map_append]; rfl
      generalize upd (upd Hc p1 (.lst [V.ref b])) p2 (.lst (bs.map V.ref ++ [V.ref b])) = H6 at eC hp2 ⊢
      have hW6 := eC.ev _ _ hW List.not_mem_nil
      have nk6 : Nms H6 (knOf cs g ++ [g]) (bs ++ [b]) := by rw [ekn]; exact Nms.evs eC (nk.snoc an')
      have p2W : p2 ≠ Wt := ne_of hp2 hW6 (fun z => by cases z)
      refine ⟨p2, rfl, ⟨_, .inl (.inl hp2)⟩, for_list (a := p2) (xs := (bs ++ [b]).map V.ref) (fun j σ Hd => ∃ v8, σ = [some (.ref F), some (.ref a.W), some (.ref wl), some (.str br), some (.ref Ln), some (.ref Lg), some (.ref Wt), some (.ref b), v8, none, none, none, none, none] ∧ Evs [Wt] H6 Hd ∧
        Hd Wt = some (.dT ((gather (((gs.take i).flatMap fun g => knOf cs g ++ [g]) ++ (knOf cs g ++ [g]).take j)).map yes))) ⟨v8, rfl, Evs.refl _ _, by rw [List.take_zero, List.append_nil]; exact hW6⟩ (fun j σ Hd _ pv => ?_) (fun j x σ Hd hx pv => ?_) (fun σ Hd pv => ?_)⟩
      · obtain ⟨_, _, ed, _⟩ := pv
        exact .inl (.inl (ed.ev _ _ hp2 (by simpa using p2W)))
      · obtain ⟨w8, rfl, ed, hWd⟩ := pv
        rw [List.getElem?_map] at hx
        obtain ⟨b', hb', rfl⟩ := Option.map_eq_some_iff.mp hx
        obtain ⟨n, hn, an2⟩ := nk6.at hb'
        have inl : ∀ m ∈ ((gs.take i).flatMap fun g => knOf cs g ++ [g]) ++ (knOf cs g ++ [g]).take j, m ∈ names cs := fun m hm => by
          rcases List.mem_append.mp hm with h | h
          · obtain ⟨g', hg', hm'⟩ := List.mem_flatMap.mp h
            exact fsub g' (List.mem_of_mem_take hg') m hm'
          · exact fsub g gin m (List.mem_of_mem_take h)
        refine ⟨_, rfl, _, rfl, Wt, _, rfl, DPut.t (k := nmK n) hWd (an2.evs ed) (small1000 (by rw [List.length_map]; have := gath _ inl; omega)), ?_⟩
        refine ⟨_, rfl, ed.trans (Evs.own (by simp) hWd (fun xs z => by cases z) (fun ob y z => by cases z)), ?_⟩
        rw [upd_same, put_yes, take_snoc hn, ← List.append_assoc, gather_snoc]
      · obtain ⟨w8, rfl, ed, hWd⟩ := pv
        refine ⟨_, _, rfl, (ec.trans (eC.mono (T := [Wt]) fun b hb => by cases hb)).trans ed, ?_⟩
        rw [hWd]
        have e1 : ((bs ++ [b]).map V.ref).length = (knOf cs g ++ [g]).length := by rw [List.length_map, nk6.len]
        rw [e1, List.take_length, take_snoc hg, List.flatMap_append]
        simp
    · obtain ⟨v7, v8, rfl, ec, hW⟩ := pv
      have e1 : (bg.map V.ref).length = gs.length := by rw [List.length_map, ng.len]
      rw [e1, List.take_length] at hW
      have hW : Hc Wt = some (.dT ((want cs gs).map yes)) := hW
      -- the floor
      refine ⟨_, rfl, Wt, _, want cs gs, rfl, hW, by rw [List.map_map]; rfl, fun fl bf nfl nmf => ?_⟩
      have ecF : Evs [F] H Hc := e5.skip ec nWtH
      have e7 : Evs [F] H (upd Hc fl (.lst (bf.map V.ref))) := ecF.put (ecF.th fl nfl)
      have nflH : H fl = none := ecF.th fl nfl
      have k57 : Evs [Wt] H5 (upd Hc fl (.lst (bf.map V.ref))) := ec.trans (Evs.new nfl)
      have kc7 : Evs [] Hc (upd Hc fl (.lst (bf.map V.ref))) := Evs.new nfl
      have fdc : Fd F C ns Hc := fd5.evs ec (by simpa using WtF.symm) (by simpa using WtC.symm)
      have flF := (fdc.apart nfl).1
      have fd7 := fdc.new (o := .lst (bf.map V.ref)) nfl
      have hfl7 : (upd Hc fl (.lst (bf.map V.ref))) fl = some (.lst (bf.map V.ref)) := upd_same
      generalize upd Hc fl (.lst (bf.map V.ref)) = H7 at e7 k57 kc7 fd7 hfl7 ⊢
      have nf7 := Nms.evs kc7 nmf
      have wd7 := wdW H7 k57
      have flA : fl ≠ a.A4 := fun z => by
        obtain ⟨b4, p4, _⟩ := (wdW Hc ec).c4
        rw [z, p4] at nfl
        cases nfl
      have flin : ∀ n ∈ srt (want cs gs), n ∈ names cs := fun n hn => want_sub wr gsub (mem_srt.mp hn)
      have fl50 : (srt (want cs gs)).length ≤ 50 := by rw [srt_len]; have := want_len wr gsub; omega
      clear hW ec k57 kc7 wdW hLg5 ng5 wd5 fd5 e5 k45 hW5 hLg ng wd4 fd4 e4 nfl nmf ecF fdc
      generalize hfloor : srt (want cs gs) = floor at nf7 flin fl50
      -- what is below
      refine fun Bt nBt => ?_
      have BtF := (fd7.apart nBt).1
      have BtC := (fd7.apart nBt).2
      have nBtH : H Bt = none := e7.th Bt nBt
      have e8 : Evs [F] H (upd H7 Bt (.dT [])) := e7.put nBtH
      have k78 : Evs [] H7 (upd H7 Bt (.dT [])) := Evs.new nBt
      have hB8 : (upd H7 Bt (.dT [])) Bt = some (.dT []) := upd_same
      have fd8 := fd7.new (o := .dT []) nBt
      generalize upd H7 Bt (.dT []) = H8 at e8 k78 hB8 fd8 ⊢
      have wd8 := ev0 wd7 k78
      have hfl8 := k78.ev _ _ hfl7 List.not_mem_nil
      have nf8 := Nms.evs k78 nf7
      have apB : Bt ≠ a.W ∧ Bt ≠ a.A1 ∧ Bt ≠ a.A2 ∧ Bt ≠ a.A3 ∧ Bt ≠ a.A4 := aways wd7 nBt
      have wdB : ∀ Hc, Evs [Bt] H8 Hc → Wd K a cs Hc := fun Hc e => wd8.evs e (fun b hb => by rw [List.mem_singleton.mp hb]; exact apB) (fun b hb xs z => by rw [List.mem_singleton.mp hb, hB8] at z; cases z)
      have flB : fl ≠ Bt := ne_of hfl8 hB8 (fun z => by cases z)
      have bfl : bf.length = floor.length := nf7.len.symm
      refine ⟨_, rfl, fl, rfl, ⟨_, .inl (.inl hfl8)⟩, for_list (a := fl) (xs := bf.map V.ref) (fun i σ Hc => ∃ v7 v8, σ = [some (.ref F), some (.ref a.W), some (.ref wl), some (.str br), some (.ref Ln), some (.ref Lg), some (.ref Wt), v7, v8, some (.ref fl), some (.ref Bt), none, none, none] ∧ Evs [Bt] H8 Hc ∧
        Hc Bt = some (.dT ((gather ((floor.take i).flatMap (knOf cs))).map yes))) ⟨_, _, rfl, Evs.refl _ _, hB8⟩ (fun i σ Hc _ pv => ?_) (fun i x σ Hc hx pv => ?_) (fun σ Hc pv => ?_)⟩
      · obtain ⟨_, _, _, ec, _⟩ := pv
        exact .inl (.inl (ec.ev _ _ hfl8 (by simpa using flB)))
      · obtain ⟨v7, v8, rfl, ec, hB⟩ := pv
        rw [List.getElem?_map] at hx
        obtain ⟨b, hb, rfl⟩ := Option.map_eq_some_iff.mp hx
        obtain ⟨g, hg, an⟩ := nf8.at hb
        have gin := List.mem_of_getElem? hg
        have wdc := wdB Hc ec
        obtain ⟨kw, w1, _, w3, _, _⟩ := wdc.w
        obtain ⟨k2, ch, l, bs, q1, hf, hv, _, hl2, nk⟩ := get2 wdc (flin g gin)
        have an' := an.evs ec
        have ekn : knOf cs g = ch.kn := by unfold knOf; rw [hf]; rfl
        have lB : l ≠ Bt := ne_of hl2 hB (fun z => by cases z)
        have nk' : Nms Hc (knOf cs g) bs := by rw [ekn]; exact nk
        refine ⟨_, rfl, a.W, _, rfl, dg (k := kKn) w1 w3, _, rfl, a.A2, .ref l, rfl, dgT q1 an' hv, l, rfl, ⟨_, .inl (.inl hl2)⟩, for_list (a := l) (xs := bs.map V.ref) (fun j σ Hd => ∃ v7, σ = [some (.ref F), some (.ref a.W), some (.ref wl), some (.str br), some (.ref Ln), some (.ref Lg), some (.ref Wt), v7, some (.ref b), some (.ref fl), some (.ref Bt), none, none, none] ∧ Evs [Bt] Hc Hd ∧
          Hd Bt = some (.dT ((gather (((floor.take i).flatMap (knOf cs)) ++ (knOf cs g).take j)).map yes))) ⟨v7, rfl, Evs.refl _ _, by rw [List.take_zero, List.append_nil]; exact hB⟩ (fun j σ Hd _ pv => ?_) (fun j x σ Hd hx pv => ?_) (fun σ Hd pv => ?_)⟩
        · obtain ⟨_, _, ed, _⟩ := pv
          exact .inl (.inl (ed.ev _ _ hl2 (by simpa using lB)))
        · obtain ⟨w7, rfl, ed, hBd⟩ := pv
          rw [List.getElem?_map] at hx
          obtain ⟨b', hb', rfl⟩ := Option.map_eq_some_iff.mp hx
          obtain ⟨n, hn, an2⟩ := nk'.at hb'
          have inl : ∀ m ∈ ((floor.take i).flatMap (knOf cs)) ++ (knOf cs g).take j, m ∈ names cs := fun m hm => by
            rcases List.mem_append.mp hm with h | h
            · obtain ⟨g', hg', hm'⟩ := List.mem_flatMap.mp h
              exact kn_of_sub wr hm'
            · exact kn_of_sub wr (List.mem_of_mem_take h)
          refine ⟨_, rfl, _, rfl, Bt, _, rfl, DPut.t (k := nmK n) hBd (an2.evs ed) (small1000 (by rw [List.length_map]; have := gath _ inl; omega)), ?_⟩
          refine ⟨_, rfl, ed.trans (Evs.own (by simp) hBd (fun xs z => by cases z) (fun ob y z => by cases z)), ?_⟩
          rw [upd_same, put_yes, take_snoc hn, ← List.append_assoc, gather_snoc]
        · obtain ⟨w7, rfl, ed, hBd⟩ := pv
          refine ⟨_, _, rfl, ec.trans ed, ?_⟩
          rw [hBd]
          have e1 : (bs.map V.ref).length = (knOf cs g).length := by rw [List.length_map, nk'.len]
          rw [e1, List.take_length, take_snoc hg, List.flatMap_append]
          simp
      · obtain ⟨v7, v8, rfl, ec, hB⟩ := pv
        have e1 : (bf.map V.ref).length = floor.length := by rw [List.length_map, bfl]
        rw [e1, List.take_length] at hB
        have hB : Hc Bt = some (.dT ((below cs floor).map yes)) := hB
        have ecF : Evs [F] H Hc := e8.skip ec nBtH
        have fdc : Fd F C ns Hc := fd8.evs ec (by simpa using BtF.symm) (by simpa using BtC.symm)
        have wdc := wdB Hc ec
        have hflc := ec.ev _ _ hfl8 (by simpa using flB)
        have nfc := Nms.evs ec nf8
        clear hfl8 nf8 wdB wd8 fd8 e8 k78 hB8 ec hfl7 nf7 wd7 fd7 e7 nBt
        -- the base
        refine ⟨_, rfl, fl, rfl, ⟨_, .inl (.inl hflc)⟩, fun Lb nLb => ?_⟩
        refine lc_list (a := fl) (xs := bf.map V.ref) (fun i Hd => Evs [] Hc Hd ∧ ∃ bb : List Addr, Hd Lb = some (.lst (bb.map V.ref)) ∧ bb.length ≤ i ∧ Nms Hd ((floor.take i).filter fun n => !decide (n ∈ below cs floor)) bb)
          ⟨Evs.new nLb, [], upd_same, Nat.le_refl _, .nil⟩ (fun i Hd _ pv => .inl (.inl (pv.1.ev _ _ hflc List.not_mem_nil))) (fun i x Hd hx pv => ?_) (fun Hd pv => ?_)
        · obtain ⟨ed, bb, hLb, hbl, nbb⟩ := pv
          refine ⟨wipe_set _ 8 _, ?_⟩
          rw [List.getElem?_map] at hx
          obtain ⟨b, hb, rfl⟩ := Option.map_eq_some_iff.mp hx
          obtain ⟨n, hn, an⟩ := nfc.at hb
          have hil : i < bf.length := (List.getElem?_eq_some_iff.mp hb).1
          refine ⟨_, rfl, _, rfl, Bt, _, rfl, dgT (ed.ev _ _ hB List.not_mem_nil) (an.evs ed) rfl, _, rfl, ?_⟩
          rw [valV_yes]
          by_cases hin : n ∈ below cs floor
          · rw [if_pos hin]
            refine iteF ⟨ed, bb, hLb, by omega, ?_⟩
            rw [take_snoc hn, List.filter_append]
            have : [n].filter (fun n => !decide (n ∈ below cs floor)) = [] := by simp [hin]
            rw [this, List.append_nil]
            exact nbb
          · rw [if_neg hin]
            refine iteT ⟨_, rfl, _, hLb, small1000 (by rw [List.length_map]; omega), ?_⟩
            have own : Evs [Lb] Hd (upd Hd Lb (.lst (bb.map V.ref ++ [V.ref b]))) := Evs.own (by simp) hLb (fun xs z => by cases z) (fun ob y z => by cases z)
            refine ⟨ed.put nLb, bb ++ [b], by rw [upd_same, List.map_append]; rfl, by rw [List.length_append, List.length_singleton]; omega, ?_⟩
            rw [take_snoc hn, List.filter_append]
            have : [n].filter (fun n => !decide (n ∈ below cs floor)) = [n] := by simp [hin]
            rw [this]
            exact Nms.evs own (nbb.snoc (an.evs ed))
        obtain ⟨ed, bb, hLb, hbl, nbb⟩ := pv
        rw [e1, List.take_length] at nbb
        refine ⟨Lb, _, rfl, .inl ⟨.inl (.inl hLb), fun tb ntb => ?_⟩⟩
        have ed9 : Evs [] Hc (upd Hd tb (.tup (bb.map V.ref))) := ed.put (ed.th tb ntb)
        have kd9 : Evs [] Hd (upd Hd tb (.tup (bb.map V.ref))) := Evs.new ntb
        have htb9 : (upd Hd tb (.tup (bb.map V.ref))) tb = some (.tup (bb.map V.ref)) := upd_same
        generalize upd Hd tb (.tup (bb.map V.ref)) = H9 at ed9 kd9 htb9 ⊢
        have nbb9 := Nms.evs kd9 nbb
        have hfl9 := ed9.ev _ _ hflc List.not_mem_nil
        have nf9 := Nms.evs ed9 nfc
        generalize hbase : (floor.filter fun n => !decide (n ∈ below cs floor)) = bas at nbb9 nbb
        -- the name
        refine ⟨_, rfl, fl, rfl, ⟨_, .inl (.inl hfl9)⟩, fun Lm nLm => ?_⟩
        refine lc_list (a := fl) (xs := bf.map V.ref) (fun i Hd => Evs [] H9 Hd ∧ Hd Lm = some (.lst (((floor.take i).map (·.1)).map V.int)))
          ⟨Evs.new nLm, upd_same⟩ (fun i Hd _ pv => .inl (.inl (pv.1.ev _ _ hfl9 List.not_mem_nil))) (fun i x Hd hx pv => ?_) (fun Hm pv => ?_)
        · obtain ⟨ed, hLm⟩ := pv
          refine ⟨wipe_set _ 8 _, ?_⟩
          simp only [tYes, if_true]
          rw [List.getElem?_map] at hx
          obtain ⟨b, hb, rfl⟩ := Option.map_eq_some_iff.mp hx
          obtain ⟨n, hn, an⟩ := nf9.at hb
          have anh : Hd b = some (.tup (nmV n)) := an.evs ed
          refine ⟨_, rfl, b, _, 0, _, rfl, rfl, .inl (.inl anh), at0, _, hLm, small1000 (by rw [List.length_map, List.length_map, List.length_take]; omega), ed.put nLm, ?_⟩
          rw [upd_same, take_snoc hn, List.map_append, List.map_append]
          rfl
        obtain ⟨edm, hLm⟩ := pv
        rw [e1, List.take_length] at hLm
        refine ⟨Lm, floor.map (·.1), 0, rfl, rfl, .inl (.inl hLm), _, _, rfl, rfl, _, rfl, (by show 2 ≤ sizeLine; decide), fun ow now => ?_⟩
        have edo : Evs [] H9 (upd Hm ow (.tup [V.int (1 + maxZ 0 (floor.map (·.1))), V.str br])) := edm.put (edm.th ow now)
        have hown : (upd Hm ow (.tup [V.int (1 + maxZ 0 (floor.map (·.1))), V.str br])) ow = some (.tup (nmV (1 + maxZ 0 (floor.map (·.1)), br))) := upd_same
        generalize upd Hm ow (.tup [V.int (1 + maxZ 0 (floor.map (·.1))), V.str br]) = H10 at edo hown ⊢
        have ec10 : Evs [] Hc H10 := ed9.trans edo
        have e10 : Evs [F] H H10 := ecF.trans (ec10.mono fun b hb => by cases hb)
        have fd10 := fd0 fdc ec10
        have wd10 := ev0 wdc ec10
        have hfl10 := ec10.ev _ _ hflc List.not_mem_nil
        have nf10 := Nms.evs ec10 nfc
        have htb10 := edo.tp _ _ htb9
        have nb10 := Nms.evs edo nbb9
        -- the deed
        refine ⟨_, rfl, _, rfl, _, rfl, _, rfl, F, C, ns, a, cs, tb, fl, bas, floor, bb, bf, rfl, hl, fd10, ap, wd10, htb10, nb10, hfl10, nf10, flin, fun n hn => nmw n (flin n hn), by omega, by omega, flF, fun d dv H11 dok ddp fd11 e11 => ?_⟩
        have wd11 := evF wd10 fd10 ap e11
        have e011 := e10.trans e11
        have hown11 : NmA H11 (1 + maxZ 0 (floor.map (·.1)), br) ow := NmA.evs hown e11
        have hfl11 := e11.ev _ _ hfl10 (by simpa using flF)
        have nf11 := Nms.evs e11 nf10
        have htb11 := e11.tp _ _ htb10
        have nb11 := Nms.evs e11 nb10
        have hwl11 := e011.ev _ _ hwl (by simpa using wlF)
        obtain ⟨qd, us, rfl, sqd⟩ := deed_parts ddp
        subst hbase
        subst hfloor
        obtain ⟨nmc, hnmc⟩ : ∃ nmc : Nm, nmc = (1 + maxZ 0 ((srt (want cs gs)).map (·.1)), br) := ⟨_, rfl⟩
        obtain ⟨kw, w1, w2, w3, w4, w5⟩ := wd11.w
        obtain ⟨k1, p1, _⟩ := wd11.c1
        obtain ⟨k2, p2, _⟩ := wd11.c2
        obtain ⟨k3, p3, l3, _⟩ := wd11.c3
        obtain ⟨b4, p4, l4⟩ := wd11.c4
        have l1 : k1.length ≤ 50 := by
          obtain ⟨k1', p1', pp⟩ := wd11.c1
          rw [p1] at p1'
          cases p1'
          rw [← Paired.length pp]
          exact c50
        have l2 : k2.length ≤ 50 := by
          obtain ⟨k2', p2', pp⟩ := wd11.c2
          rw [p2] at p2'
          cases p2'
          rw [← Paired.length pp]
          exact c50
        have nW1 : a.W ≠ a.A1 := ne_of w1 p1 (fun z => by cases z)
        have nW2 : a.W ≠ a.A2 := ne_of w1 p2 (fun z => by cases z)
        have nW4 : a.W ≠ a.A4 := ne_of w1 p4 (fun z => by cases z)
        have n12 : a.A1 ≠ a.A2 := wd11.ne
        have n13 : a.A1 ≠ a.A3 := ne_of p1 p3 (fun z => by cases z)
        have n14 : a.A1 ≠ a.A4 := ne_of p1 p4 (fun z => by cases z)
        have n23 : a.A2 ≠ a.A3 := ne_of p2 p3 (fun z => by cases z)
        have n24 : a.A2 ≠ a.A4 := ne_of p2 p4 (fun z => by cases z)
        have n34 : a.A3 ≠ a.A4 := ne_of p3 p4 (fun z => by cases z)
        obtain ⟨kF, hF11, _⟩ := fd11.ex
        have nF1 : F ≠ a.A1 := ne_of hF11 p1 (fun z => by cases z)
        have nF2 : F ≠ a.A2 := ne_of hF11 p2 (fun z => by cases z)
        have nF4 : F ≠ a.A4 := ne_of hF11 p4 (fun z => by cases z)
        apply byC (Fa := fun Hx => Evs [a.A4] H11 Hx ∧ Fd F C ns Hx ∧ ∃ bs : List Addr, Hx a.A4 = some (.lst (bs.map V.ref)) ∧ bs.length ≤ cs.length + 1)
        · intro rest
          refine ⟨_, rfl, qd, _, 0, _, rfl, rfl, sqd, at0, rfl, _, rfl, ite2 (fun _ => ?_) (fun _ => rest H11 ⟨Evs.refl _ _, fd11, b4, p4, by omega⟩)⟩
          refine ⟨_, rfl, a.W, _, rfl, dg (k := kHa) w1 w5, .inl ⟨rfl, _, .inl (.inl p4)⟩, _, rfl, a.A4, _, _, rfl, rfl, p4, small1000 (by rw [List.length_map]; omega), ?_⟩
          have fa : Evs [a.A4] H11 (upd H11 a.A4 (.lst (b4.map V.ref ++ [V.ref ow]))) ∧ Fd F C ns (upd H11 a.A4 (.lst (b4.map V.ref ++ [V.ref ow]))) ∧ ∃ bs : List Addr, (upd H11 a.A4 (.lst (b4.map V.ref ++ [V.ref ow]))) a.A4 = some (.lst (bs.map V.ref)) ∧ bs.length ≤ cs.length + 1 :=
            ⟨Evs.own (by simp) p4 (fun xs z => by cases z) (fun ob y z => by cases z), fd11.over p4 nF4.symm ap.c4.symm, b4 ++ [ow], by rw [upd_same, List.map_append]; rfl, by rw [List.length_append, List.length_singleton]; omega⟩
          generalize upd H11 a.A4 (.lst (b4.map V.ref ++ [V.ref ow])) = Hx at fa ⊢
          exact rest Hx fa
        intro H12 fa
        obtain ⟨e12, fd12, b5, p45, l5⟩ := fa
        have hwl12 := e12.ev _ _ hwl11 (by simpa using wlA)
        -- the change
        refine ⟨_, rfl, _, rfl, _, rfl, _, rfl, wl, _, rfl, .inl (.inl (.inl hwl12)), F, C, ns, _, rfl, by rw [List.length_map]; omega, by rw [List.length_map]; omega, hl, fd12, fun r13 H13 r130 r131 fd13 ev13 => ?_⟩
        have e13 := ev13.evs fd12 fd13
        have hwl13 := ev13 _ _ hwl12 wlF
        obtain ⟨v, hv, hmem, _⟩ := val_at (xs := ws.map V.str) r130 r131
        obtain ⟨hand, hhand, rfl⟩ := List.mem_map.mp hmem
        refine ⟨wl, _, r13, _, rfl, rfl, .inl (.inl hwl13), hv, _, rfl, _, rfl, (by show 4 ≤ sizeLine; decide), fun ch nch => ?_⟩
        have e113 : Evs [F, a.A1, a.A2, a.A3, a.A4] H11 H13 := (e12.mono fun b hb => by rw [List.mem_singleton.mp hb]; simp).trans (e13.mono fun b hb => by rw [List.mem_singleton.mp hb]; simp)
        have at13 : ∀ b o, H11 b = some o → b ≠ a.A4 → b ≠ F → H13 b = some o := fun b o h h4 hF => e13.ev _ _ (e12.ev _ _ h (by simpa using h4)) (by simpa using hF)
        have e114 : Evs [F, a.A1, a.A2, a.A3, a.A4] H11 (upd H13 ch (.tup [V.ref ow, V.str hand, V.ref tb, V.ref qd])) := e113.trans (Evs.new nch)
        have fd14 := fd13.new (o := .tup [V.ref ow, V.str hand, V.ref tb, V.ref qd]) nch
        have hch14 : (upd H13 ch (.tup [V.ref ow, V.str hand, V.ref tb, V.ref qd])) ch = some (.tup [V.ref ow, V.str hand, V.ref tb, V.ref qd]) := upd_same
        have at14 : ∀ b o, H11 b = some o → b ≠ a.A4 → b ≠ F → (upd H13 ch (.tup [V.ref ow, V.str hand, V.ref tb, V.ref qd])) b = some o := fun b o h h4 hF => by
          have z := at13 b o h h4 hF
          rw [upd_ne (ne_of_none z nch)]
          exact z
        have p414 : (upd H13 ch (.tup [V.ref ow, V.str hand, V.ref tb, V.ref qd])) a.A4 = some (.lst (b5.map V.ref)) := by
          have z := e13.ev _ _ p45 (by simpa using nF4.symm)
          rw [upd_ne (ne_of_none z nch)]
          exact z
        generalize upd H13 ch (.tup [V.ref ow, V.str hand, V.ref tb, V.ref qd]) = H14 at e114 fd14 hch14 at14 p414 ⊢
        have w114 := at14 _ _ w1 nW4 ap.fw.symm
        have p114 := at14 _ _ p1 n14 nF1.symm
        have p214 := at14 _ _ p2 n24 nF2.symm
        have p314 := at14 _ _ p3 n34 ap.f3.symm
        have hown14 : NmA H14 nmc ow := by rw [hnmc]; exact hown11.evs e114
        refine ⟨_, rfl, a.W, _, rfl, dg (k := kCh) w114 w2, _, rfl, a.A1, _, rfl, DPut.t (k := nmK nmc) p114 hown14 (small1000 (by omega)), ?_⟩
        have o1 : Evs [F, a.A1, a.A2, a.A3, a.A4] H14 (upd H14 a.A1 (.dT (putK k1 (nmK nmc) (.ref ch)))) := Evs.own (by simp) p114 (fun xs z => by cases z) (fun ob y z => by cases z)
        have hown15 := hown14.evs o1
        refine ⟨_, rfl, _, rfl, a.W, _, rfl, dg (k := kKn) (by rw [upd_ne nW1]; exact w114) w3, _, rfl, a.A2, _, rfl, DPut.t (k := nmK nmc) (by rw [upd_ne n12.symm]; exact p214) hown15 (small1000 (by omega)), ?_⟩
        have o2 : Evs [F, a.A1, a.A2, a.A3, a.A4] (upd H14 a.A1 (.dT (putK k1 (nmK nmc) (.ref ch)))) (upd (upd H14 a.A1 (.dT (putK k1 (nmK nmc) (.ref ch)))) a.A2 (.dT (putK k2 (nmK nmc) (.ref fl)))) :=
          Evs.own (by simp) (by rw [upd_ne n12.symm]; exact p214) (fun xs z => by cases z) (fun ob y z => by cases z)
        refine ⟨_, rfl, _, rfl, a.W, _, rfl, dg (k := kLa) (by rw [upd_ne nW2, upd_ne nW1]; exact w114) w4, _, rfl, a.A3, _, rfl, DPut.k (k := Sum.inr br) (by rw [upd_ne n23.symm, upd_ne n13.symm]; exact p314) (small1000 (by omega)), ?_⟩
        have o3 : Evs [F, a.A1, a.A2, a.A3, a.A4] (upd (upd H14 a.A1 (.dT (putK k1 (nmK nmc) (.ref ch)))) a.A2 (.dT (putK k2 (nmK nmc) (.ref fl)))) (upd (upd (upd H14 a.A1 (.dT (putK k1 (nmK nmc) (.ref ch)))) a.A2 (.dT (putK k2 (nmK nmc) (.ref fl)))) a.A3 (.dK (putK k3 (Sum.inr br) (.ref ow)))) :=
          Evs.own (by simp) (by rw [upd_ne n23.symm, upd_ne n13.symm]; exact p314) (fun xs z => by cases z) (fun ob y z => by cases z)
        have ef := ((e114.trans o1).trans o2).trans o3
        have hA1 : (upd (upd (upd H14 a.A1 (.dT (putK k1 (nmK nmc) (.ref ch)))) a.A2 (.dT (putK k2 (nmK nmc) (.ref fl)))) a.A3 (.dK (putK k3 (Sum.inr br) (.ref ow)))) a.A1 = some (.dT (putK k1 (nmK nmc) (.ref ch))) := by rw [upd_ne n13, upd_ne n12, upd_same]
        have hA2 : (upd (upd (upd H14 a.A1 (.dT (putK k1 (nmK nmc) (.ref ch)))) a.A2 (.dT (putK k2 (nmK nmc) (.ref fl)))) a.A3 (.dK (putK k3 (Sum.inr br) (.ref ow)))) a.A2 = some (.dT (putK k2 (nmK nmc) (.ref fl))) := by rw [upd_ne n23, upd_same]
        have hA3 : (upd (upd (upd H14 a.A1 (.dT (putK k1 (nmK nmc) (.ref ch)))) a.A2 (.dT (putK k2 (nmK nmc) (.ref fl)))) a.A3 (.dK (putK k3 (Sum.inr br) (.ref ow)))) a.A3 = some (.dK (putK k3 (Sum.inr br) (.ref ow))) := upd_same
        have hA4 : (upd (upd (upd H14 a.A1 (.dT (putK k1 (nmK nmc) (.ref ch)))) a.A2 (.dT (putK k2 (nmK nmc) (.ref fl)))) a.A3 (.dK (putK k3 (Sum.inr br) (.ref ow)))) a.A4 = some (.lst (b5.map V.ref)) := by rw [upd_ne n34.symm, upd_ne n24.symm, upd_ne n14.symm]; exact p414
        have fdf : Fd F C ns (upd (upd (upd H14 a.A1 (.dT (putK k1 (nmK nmc) (.ref ch)))) a.A2 (.dT (putK k2 (nmK nmc) (.ref fl)))) a.A3 (.dK (putK k3 (Sum.inr br) (.ref ow)))) := by
          have c1 : C ≠ a.A1 := ne_of fd11.cl p1 (fun z => by cases z)
          have c2 : C ≠ a.A2 := ne_of fd11.cl p2 (fun z => by cases z)
          have c3 : C ≠ a.A3 := ne_of fd11.cl p3 (fun z => by cases z)
          refine ((fd14.over p114 nF1.symm c1.symm).over (u := .dT k2) ?_ nF2.symm c2.symm).over (u := .dK k3) ?_ ap.f3.symm c3.symm
          · rw [upd_ne n12.symm]; exact p214
          · rw [upd_ne n23.symm, upd_ne n13.symm]; exact p314
        have hflf : (upd (upd (upd H14 a.A1 (.dT (putK k1 (nmK nmc) (.ref ch)))) a.A2 (.dT (putK k2 (nmK nmc) (.ref fl)))) a.A3 (.dK (putK k3 (Sum.inr br) (.ref ow)))) fl = some (.lst (bf.map V.ref)) := by
          rw [upd_ne (ne_of hfl11 p3 (fun z => by cases z)), upd_ne (ne_of hfl11 p2 (fun z => by cases z)), upd_ne (ne_of hfl11 p1 (fun z => by cases z))]
          exact at14 _ _ hfl11 flA flF
        have hchf := ((o1.trans o2).trans o3).tp _ _ hch14
        generalize upd (upd (upd H14 a.A1 (.dT (putK k1 (nmK nmc) (.ref ch)))) a.A2 (.dT (putK k2 (nmK nmc) (.ref fl)))) a.A3 (.dK (putK k3 (Sum.inr br) (.ref ow))) = Hf at ef hA1 hA2 hA3 hA4 fdf hflf hchf ⊢
        have sok : StepOk ws cs (mkCh cs br gs hand d) := ⟨br, hand, gs, d, hbr, hhand, gsub, glast, rfl, dok⟩
        have ecn : (mkCh cs br gs hand d).nm = nmc := hnmc.symm
        have hownf : NmA Hf nmc ow := by rw [hnmc]; exact hown11.evs ef
        have efH : Evs [F, a.A1, a.A2, a.A3, a.A4] H Hf := (e011.mono fun b hb => by rw [List.mem_singleton.mp hb]; simp).trans ef
        refine q (mkCh cs br gs hand d) Hf sok fdf ?_ efH
        refine wd_done (F := F) (ow := ow) (l := fl) (bf := bf) (v := .ref ch) wd11 ef ap.fw ap.w3 (fun xs z => by rw [hF11] at z; cases z) (step_new wr sok) (fun k hk => ?_) (fun k hk => ?_) (fun k hk => ?_) ⟨b5, hA4, l5⟩ ?_ flA hflf (Nms.evs ef nf11) ?_
        · rw [p1] at hk
          cases hk
          rw [ecn]
          exact hA1
        · rw [p2] at hk
          cases hk
          rw [ecn]
          exact hA2
        · rw [p3] at hk
          cases hk
          exact hA3
        · refine .tup (.inl (.inl hchf)) (.cons ?_ (.cons (.str _) (.cons (.tup (.inl (.inl (ef.tp _ _ htb11))) (Nms.evs ef nb11).dpAll) (.cons (ef.dp (tup_deed d) ddp) .nil))))
          rw [ecn]
          exact hownf.dp
        · rw [ecn]; exact hownf
end
end K06

set_option maxHeartbeats 4000000
namespace K06
open PySem PySem.Spec PyProof.Rows L2 Mw
abbrev sWorld : Stmt := topS 8
theorem scWorld : FnScope ["_law_feed_here", "_law_words_here", "_law_many", "_law_world_here", "_law_k"] ["_law_feed_here", "_law_words_here", "_law_many"] (defScope sWorld) := ⟨rfl, rfl, rfl, by decide +kernel, rfl, by decide +kernel, by decide +kernel⟩
abbrev sLedger : Stmt := topS 9
theorem scLedger : FnScope ["_law_world_here", "_law_names_here", "_law_name"] ["_law_world_here", "_law_names_here"] (defScope sLedger) := ⟨rfl, rfl, rfl, by decide +kernel, rfl, by decide +kernel, by decide +kernel⟩
theorem skips {S T : List Addr} {H H1 H2 : Hp} (a : Evs S H H1) (b : Evs T H1 H2) (n : ∀ p ∈ T, p ∈ S ∨ H p = none) : Evs S H H2 :=
  ⟨fun c o e nc => b.ev c o (a.ev c o e nc) (fun hc => by
    rcases n c hc with h | h
    · exact nc h
    · rw [h] at e; cases e), fun c xs e => b.tp c xs (a.tp c xs e), fun c o u e => b.fz c o u (a.fz c o u e), fun c e => a.th c (b.th c e)⟩
def spWorld (K : PySem.W.Frag) : Sp := fun vs H Q _ => ∃ (F C : Addr) (ns : List Int) (wl : Addr) (ws : List Str) (m : Int), vs = [.ref F, .ref wl, .int m] ∧ ns.length ≤ 63 ∧ Fd F C ns H ∧ H wl = some (.lst (ws.map V.str)) ∧ 0 < ws.length ∧ ws.length ≤ 6 ∧ (∀ z ∈ ws, Wrd z) ∧ 0 ≤ m ∧ m ≤ 40 ∧
  ∀ (a : Wa) (cs : List Ch) (H' : Hp), Wr ws cs → (cs.length : Int) = m → Wd K a cs H' → Apart F C a → Fd F C ns H' → Evs [F] H H' → Q (.ref a.W) H'
theorem eqv_nm (m n : Nm) : PyData.eqv (nmD m) (nmD n) = decide (m = n) := by
  obtain ⟨i, x⟩ := m
  obtain ⟨j, y⟩ := n
  simp only [nmD, PyData.eqv, PyData.eqvAll, Bool.and_true]
  by_cases h1 : i = j
  · by_cases h2 : x = y
    · subst h1; subst h2; simp
    · have : ¬ (i, x) = (j, y) := fun e => h2 (Prod.mk.inj e).2
      rw [decide_eq_false this]
      simp [h2]
  · have : ¬ (i, x) = (j, y) := fun e => h1 (Prod.mk.inj e).1
    rw [decide_eq_false this]
    simp [h1]
theorem any_nm (nms : List Nm) (n : Nm) : ((nms.map nmD).any fun z => PyData.eqv z (nmD n)) = decide (n ∈ nms) := by
  induction nms with
  | nil => rfl
  | cons m r ih =>
    rw [List.map_cons, List.any_cons, ih, eqv_nm]
    by_cases h : m = n
    · simp [h]
    · have : ¬ n = m := fun e => h e.symm
      simp [h, this]
def ledP (cs : List Ch) (nms : List Nm) : List Ch := ((srt (names cs)).filter fun n => decide (n ∈ nms)).filterMap (findC cs)
def spLedger (K : PySem.W.Frag) : Sp := fun vs H Q _ => ∃ (a : Wa) (cs : List Ch) (nl : Addr) (nms : List Nm) (bn : List Addr), vs = [.ref a.W, .ref nl] ∧ Wd K a cs H ∧ cs.length ≤ 50 ∧ (∀ n ∈ names cs, Wrd n.2) ∧ H nl = some (.lst (bn.map V.ref)) ∧ Nms H nms bn ∧ (∀ n ∈ nms, Wrd n.2) ∧
  ∀ (p : Addr) (vs : List V) (H' : Hp), H' p = some (.tup vs) → DpAll K H' vs ((ledP cs nms).map chD) → Evs [] H H' → Q (.ref p) H'
theorem dpAll_snoc {K : PySem.W.Frag} {H : Hp} : ∀ {vs : List V} {ds : List PyData} {v : V} {d : PyData}, DpAll K H vs ds → Dp K H v d → DpAll K H (vs ++ [v]) (ds ++ [d])
  | _, _, _, _, .nil, h => .cons h .nil
  | _, _, _, _, .cons h t, h2 => .cons h (dpAll_snoc t h2)
theorem dpAll_len {K : PySem.W.Frag} {H : Hp} : ∀ {vs : List V} {ds : List PyData}, DpAll K H vs ds → vs.length = ds.length
  | _, _, .nil => rfl
  | _, _, .cons h t => by rw [List.length_cons, List.length_cons, dpAll_len t]
theorem tup_chs : ∀ cs : List Ch, tupAll (cs.map chD) = true
  | [] => rfl
  | c :: r => by simp [tupAll, tup_ch, tup_chs r]
section
variable {P : Program} {w : World} {K : PySem.W.Frag} {mg : Str → Option Value} {base : Heap}
theorem ok_world {f c fS : Addr} {fd fdS : FuncData} (D : Def K "_law_world" sWorld f c fd) (t : Txt mg) (kS : PySem.W.keepIn K (.ref fS) = true) (bS : Binds K fdS ["_law_feed_here", "_law_world_here", "_law_words_here"] []) (gS : mg "_law_step" = some (.ref fS))
    (GS : FnOk P w K mg base CX0 3 fS fdS ["_law_feed_here", "_law_world_here", "_law_words_here"] (spStep K)) : FnOk P w K mg base CX0 4 f fd ["_law_feed_here", "_law_words_here", "_law_many"] (spWorld K) := by
  refine D.ok scWorld (fun vs H Q E h => ?_) (fun A outer s H vs Q E hr h => ?_)
  · obtain ⟨F, C, ns, wl, ws, m, rfl, _⟩ := h
    rfl
  · obtain ⟨F, C, ns, wl, ws, m, rfl, hl, fd, hwl, w0, w6, wrd, m0, m40, q⟩ := h
    refine ⟨_, (pss_cons (ps_set (i := 3) scWorld.nd rfl (by first | exact Or.inl rfl | exact Or.inr rfl) (pe_disp (pps_cons pe_str pe_dnewT (pps_cons pe_str pe_dnewT (pps_cons pe_str pe_dnewK (pps_cons pe_str (pe_lst pa_nil) pps_nil)))) rfl rfl (by simp) (by decide)))
      (pss_cons (ps_for PassesOwn.never rfl (pi_range1 (by rfl) t.range (pa_cons (pv 2) pa_nil)) (pg_name (i := 4) scWorld.nd rfl (Or.inl rfl))
        (pss_one (ps_expr (pe_call GS hr (by rfl) gS kS bS .nil pass0 (pa_cons (pv 0) (pa_cons (pv 3) (pa_cons (pv 1) pa_nil)))))))
      (pss_one (ps_ret (pv 3))))), ?_⟩
    intro W nW A1 n1 A2 n2 A3 n3
    refine ⟨Nat.zero_le _, fun A4 n4 => ?_⟩
    have g1 := updNone n1
    have g2 := updNone n2
    have g2' := updNone g2.1
    have g3 := updNone n3
    have g3' := updNone g3.1
    have g3'' := updNone g3'.1
    have g4 := updNone n4
    have g4' := updNone g4.1
    have g4'' := updNone g4'.1
    have g4''' := updNone g4''.1
    have hW : (upd (upd (upd (upd (upd H W (.dK [])) A1 (.dT [])) A2 (.dT [])) A3 (.dK [])) A4 (.lst [])) W = some (.dK []) := by
      rw [upd_ne g4'''.2.symm, upd_ne g3''.2.symm, upd_ne g2'.2.symm, upd_ne g1.2.symm, upd_same]
    refine ⟨hW, [(kCh, .ref A1), (kKn, .ref A2), (kLa, .ref A3), (kHa, .ref A4)], rfl, (show (4 : Nat) ≤ 15 by decide), ?_⟩
    have v1 : valV (mergeK [] [(kCh, V.ref A1), (kKn, .ref A2), (kLa, .ref A3), (kHa, .ref A4)]) kCh = some (.ref A1) := by
      show valV (putK (putK (putK (putK [] kCh (.ref A1)) kKn (.ref A2)) kLa (.ref A3)) kHa (.ref A4)) kCh = _
      rw [valV_put, if_neg (by decide +kernel), valV_put, if_neg (by decide +kernel), valV_put, if_neg (by decide +kernel), valV_put, if_pos rfl]
    have v2 : valV (mergeK [] [(kCh, V.ref A1), (kKn, .ref A2), (kLa, .ref A3), (kHa, .ref A4)]) kKn = some (.ref A2) := by
      show valV (putK (putK (putK (putK [] kCh (.ref A1)) kKn (.ref A2)) kLa (.ref A3)) kHa (.ref A4)) kKn = _
      rw [valV_put, if_neg (by decide +kernel), valV_put, if_neg (by decide +kernel), valV_put, if_pos rfl]
    have v3 : valV (mergeK [] [(kCh, V.ref A1), (kKn, .ref A2), (kLa, .ref A3), (kHa, .ref A4)]) kLa = some (.ref A3) := by
      show valV (putK (putK (putK (putK [] kCh (.ref A1)) kKn (.ref A2)) kLa (.ref A3)) kHa (.ref A4)) kLa = _
      rw [valV_put, if_neg (by decide +kernel), valV_put, if_pos rfl]
    have v4 : valV (mergeK [] [(kCh, V.ref A1), (kKn, .ref A2), (kLa, .ref A3), (kHa, .ref A4)]) kHa = some (.ref A4) := by
      show valV (putK (putK (putK (putK [] kCh (.ref A1)) kKn (.ref A2)) kLa (.ref A3)) kHa (.ref A4)) kHa = _
      rw [valV_put, if_pos rfl]
    generalize mergeK [] [(kCh, V.ref A1), (kKn, .ref A2), (kLa, .ref A3), (kHa, .ref A4)] = kw at v1 v2 v3 v4 ⊢
    have nA1 : H A1 = none := g1.1
    have nA2 : H A2 = none := g2'.1
    have nA3 : H A3 = none := g3''.1
    have nA4 : H A4 = none := g4'''.1
    have e0 : Evs [F] H (upd (upd (upd (upd (upd (upd H W (.dK [])) A1 (.dT [])) A2 (.dT [])) A3 (.dK [])) A4 (.lst [])) W (.dK kw)) :=
      (((((Evs.new nW).put nA1).put nA2).put nA3).put nA4).put nW
    obtain ⟨a, ha⟩ : ∃ a : Wa, a = ⟨W, A1, A2, A3, A4⟩ := ⟨_, rfl⟩
    have wd0 : Wd K a [] (upd (upd (upd (upd (upd (upd H W (.dK [])) A1 (.dT [])) A2 (.dT [])) A3 (.dK [])) A4 (.lst [])) W (.dK kw)) := by
      subst ha
      refine ⟨⟨kw, upd_same, v1, v2, v3, v4⟩, ⟨[], ?_, .nil⟩, ⟨[], ?_, .nil⟩, ⟨[], ?_, Nat.le_refl _, fun br => .inl ⟨rfl, rfl⟩⟩, ⟨[], ?_, Nat.le_refl _⟩, g2.2.symm⟩
      · show (upd _ W (.dK kw)) A1 = _
        rw [upd_ne g1.2, upd_ne g4''.2.symm, upd_ne g3'.2.symm, upd_ne g2.2.symm, upd_same]
      · show (upd _ W (.dK kw)) A2 = _
        rw [upd_ne g2'.2, upd_ne g4'.2.symm, upd_ne g3.2.symm, upd_same]
      · show (upd _ W (.dK kw)) A3 = _
        rw [upd_ne g3''.2, upd_ne g4.2.symm, upd_same]
      · show (upd _ W (.dK kw)) A4 = _
        rw [upd_ne g4'''.2, upd_same]
        rfl
    have fd1 : Fd F C ns (upd (upd (upd (upd (upd (upd H W (.dK [])) A1 (.dT [])) A2 (.dT [])) A3 (.dK [])) A4 (.lst [])) W (.dK kw)) := by
      have z := ((((fd.new (o := .dK []) nW).new (o := .dT []) n1).new (o := .dT []) n2).new (o := .dK []) n3).new (o := .lst []) n4
      exact z.over hW (fd.apart nW).1 (fd.apart nW).2
    have ap : Apart F C a := by
      subst ha
      exact ⟨(fd.apart nW).1.symm, (fd.apart nA3).1.symm, g3''.2.symm, (fd.apart nA4).2.symm⟩
    have eW : a.W = W := by rw [ha]
    have e1 : a.A1 = A1 := by rw [ha]
    have e2 : a.A2 = A2 := by rw [ha]
    have e3 : a.A3 = A3 := by rw [ha]
    have e4 : a.A4 = A4 := by rw [ha]
    clear ha
    rw [← e1] at nA1
    rw [← e2] at nA2
    rw [← e3] at nA3
    rw [← e4] at nA4
    subst eW
    generalize (upd (upd (upd (upd (upd (upd H a.W (.dK [])) A1 (.dT [])) A2 (.dT [])) A3 (.dK [])) A4 (.lst [])) a.W (.dK kw)) = H1 at e0 wd0 fd1 ⊢
    have wlA : wl ≠ a.A4 := ne_of_none hwl nA4
    obtain ⟨kF, hF, _⟩ := fd.ex
    have wlF : wl ≠ F := ne_of hwl hF (fun z => by cases z)
    refine ⟨_, rfl, m, rfl, by omega, by omega, for_range (n := m.toNat) (fun i σ Hc => ∃ v4, σ = [some (.ref F), some (.ref wl), some (.int m), some (.ref a.W), v4] ∧ ∃ cs : List Ch, cs.length = i ∧ Wr ws cs ∧ Wd K a cs Hc ∧ Fd F C ns Hc ∧ Evs [F] H Hc) ⟨none, rfl, [], rfl, .nil, wd0, fd1, e0⟩ ?_ ?_⟩
    · rintro i σ Hc hi ⟨v4, rfl, cs, hcl, wr, wdc, fdc, ec⟩
      refine ⟨_, rfl, _, rfl, _, rfl, F, C, ns, a, cs, wl, ws, rfl, hl, fdc, ap, wdc, ec.ev _ _ hwl (by simpa using wlF), w0, w6, wrd, wr, by omega, wlA, fun c H' sok fd' wd' e' => ?_⟩
      refine ⟨_, rfl, cs ++ [c], by rw [List.length_append, hcl]; rfl, .snoc wr sok, wd', fd', skips ec e' fun p hp => ?_⟩
      simp only [List.mem_cons, List.not_mem_nil, or_false] at hp
      rcases hp with h | h | h | h | h
      · exact .inl (by rw [h]; simp)
      · exact .inr (by rw [h]; exact nA1)
      · exact .inr (by rw [h]; exact nA2)
      · exact .inr (by rw [h]; exact nA3)
      · exact .inr (by rw [h]; exact nA4)
    · rintro σ Hc ⟨v4, rfl, cs, hcl, wr, wdc, fdc, ec⟩
      exact ⟨_, rfl, q a cs Hc wr (by omega) wdc ap fdc ec⟩
theorem ok_ledger {f c : Addr} {fd : FuncData} {k : Nat} (D : Def K "_law_ledger" sLedger f c fd) (t : Txt mg) : FnOk P w K mg base CX0 (k + 1) f fd ["_law_world_here", "_law_names_here"] (spLedger K) := by
  refine D.ok scLedger (fun vs H Q E h => ?_) (fun A outer s H vs Q E hr h => ?_)
  · obtain ⟨a, cs, nl, nms, bn, rfl, _⟩ := h
    rfl
  · obtain ⟨a, cs, nl, nms, bn, rfl, wd, c50, cw, hnl, nn, nw, q⟩ := h
    have hu := hu_of hr
    have hu16 := r16 hr
    have hu65 := r65 hr
    refine ⟨_, (pss_one (ps_ret (pe_callTy call_tuple_of (by rfl) t.tup PyProof.Rows.boot_tuple (pa_cons (pe_lc (own := [("_law_name", 2)]) (g := gName 2) rfl scLedger.nd (pi_list (pe_callB (call_sortT rfl hu16) (by rfl) t.sorted boot_sorted (pa_cons (pe_dget hu (pv 0) pe_str (fun _ _ => rfl)) pa_nil))) (blkOk_by (N := ["_law_world_here", "_law_names_here", "_law_name"]) (sc := defScope sLedger) (by decide +kernel)) (fun _ _ _ _ _ => (pg_name (i := 2) scLedger.nd rfl (Or.inl rfl))) (fun _ _ _ _ _ => (pts_one (pt_cmpR (show OpR _ _ (rInD K) from op_inD hu65) (pv 2) (pv 1) rfl))) (fun _ _ _ _ _ => (pe_dget hu (pe_dget hu (pv 0) pe_str (fun _ _ => rfl)) (pv 2) (fun _ _ => rfl)))) pa_nil)))), ?_⟩
    obtain ⟨kw, w1, w2, _⟩ := wd.w
    obtain ⟨k1, p1, p2⟩ := wd.c1
    refine ⟨_, rfl, a.W, _, rfl, dg (k := kCh) w1 w2, a.A1, k1, names cs, rfl, p1, pair_keys (P := fun c v => Dp K H v (chD c)) p2, fun Ln bs nLn nmn => ?_⟩
    have e1 : Evs [] H (upd H Ln (.lst (bs.map V.ref))) := Evs.new nLn
    have hLn : (upd H Ln (.lst (bs.map V.ref))) Ln = some (.lst (bs.map V.ref)) := upd_same
    generalize upd H Ln (.lst (bs.map V.ref)) = H1 at e1 hLn ⊢
    have nm1 := Nms.evs e1 nmn
    have wd1 := ev0 wd e1
    have hnl1 := e1.ev _ _ hnl List.not_mem_nil
    have nn1 := Nms.evs e1 nn
    refine ⟨Ln, rfl, ⟨_, .inl (.inl hLn)⟩, fun L nL => ?_⟩
    have bsl : bs.length ≤ 50 := by rw [← nmn.len, srt_len, List.length_map]; exact c50
    refine lc_list (a := Ln) (xs := bs.map V.ref) (fun i Hc => Evs [] H1 Hc ∧ ∃ vs : List V, Hc L = some (.lst vs) ∧ vs.length ≤ i ∧ DpAll K Hc vs (((((srt (names cs)).take i).filter fun n => decide (n ∈ nms)).filterMap (findC cs)).map chD))
      ⟨Evs.new nL, [], upd_same, Nat.le_refl _, .nil⟩ (fun i Hc _ pv => .inl (.inl (pv.1.ev _ _ hLn List.not_mem_nil))) (fun i x Hc hx pv => ?_) (fun Hc pv => ?_)
    · obtain ⟨ec, vs, hL, hvl, dvs⟩ := pv
      refine ⟨wipe_set _ 2 _, ?_⟩
      rw [List.getElem?_map] at hx
      obtain ⟨b, hb, rfl⟩ := Option.map_eq_some_iff.mp hx
      obtain ⟨n, hn, an⟩ := nm1.at hb
      have hib : i < bs.length := (List.getElem?_eq_some_iff.mp hb).1
      have nin : n ∈ names cs := mem_srt.mp (List.mem_of_getElem? hn)
      refine ⟨_, rfl, _, rfl, nmD n, nms.map nmD, (an.evs ec).dp, .lst (.inl (.inl (ec.ev _ _ hnl1 List.not_mem_nil))) (Nms.evs ec nn1).dpAll, shNm (cw n nin), shNms nw, _, rfl, ?_⟩
      rw [any_nm]
      by_cases hin : n ∈ nms
      · rw [decide_eq_true hin]
        have wdc := ev0 wd1 ec
        obtain ⟨kw', w1', w2', _⟩ := wdc.w
        obtain ⟨kc, ch, v, pc, hf, hv, dv⟩ := get1 wdc nin
        refine iteT ⟨_, rfl, a.W, _, rfl, dg (k := kCh) w1' w2', _, rfl, a.A1, v, rfl, dgT pc (an.evs ec) hv, _, hL, small1000 (by omega), ?_⟩
        have own : Evs [L] Hc (upd Hc L (.lst (vs ++ [v]))) := Evs.own (by simp) hL (fun xs z => by cases z) (fun ob y z => by cases z)
        refine ⟨ec.put nL, vs ++ [v], upd_same, by rw [List.length_append, List.length_singleton]; omega, ?_⟩
        rw [take_snoc hn, List.filter_append, List.filterMap_append, List.map_append]
        have : (([n].filter fun n => decide (n ∈ nms)).filterMap (findC cs)).map chD = [chD ch] := by simp [hin, hf]
        rw [this]
        exact dpAll_snoc (own.dpAll (tup_chs _) dvs) (own.dp (tup_ch ch) dv)
      · rw [decide_eq_false hin]
        refine iteF ⟨ec, vs, hL, by omega, ?_⟩
        rw [take_snoc hn, List.filter_append, List.filterMap_append, List.map_append]
        have : (([n].filter fun n => decide (n ∈ nms)).filterMap (findC cs)).map chD = [] := by simp [hin]
        rw [this, List.append_nil]
        exact dvs
    · obtain ⟨ec, vs, hL, hvl, dvs⟩ := pv
      have el : (bs.map V.ref).length = (srt (names cs)).length := by rw [List.length_map, nmn.len]
      rw [el, List.take_length] at dvs
      refine ⟨L, vs, rfl, .inl ⟨.inl (.inl hL), fun p np => ?_⟩⟩
      have k : Evs [] Hc (upd Hc p (.tup vs)) := Evs.new np
      exact q p vs _ upd_same (k.dpAll (tup_chs _) dvs) (e1.trans (ec.trans k))
end
end K06

set_option maxHeartbeats 4000000
namespace K06
open PySem PySem.Spec PyProof.Rows L2 Mw
abbrev sUpto : Stmt := topS 1
theorem scUpto : FnScope ["ledger", "name", "change"] ["ledger", "name"] (defScope sUpto) := ⟨rfl, rfl, rfl, by decide +kernel, rfl, by decide +kernel, by decide +kernel⟩
abbrev sUp : Stmt := topS 10
theorem scUp : FnScope ["_law_name", "_law_other", "_law_mine", "_law_theirs", "_law_one", "_law_two", "_law_sign"] ["_law_name", "_law_other"] (defScope sUp) := ⟨rfl, rfl, rfl, by decide +kernel, rfl, by decide +kernel, by decide +kernel⟩
/-- the table's own def: what it tells, all but the tables kept -/
def spUpto (K : PySem.W.Frag) (T : List Addr) : Sp := fun vs H Q _ => ∃ (lp : Addr) (nv : V) (xs : List V) (L : List Ch) (n : Nm), vs = [.ref lp, nv] ∧ SqT K H lp xs ∧ DpAll K H xs (L.map chD) ∧ L.length ≤ 100 ∧ Dp K H nv (nmD n) ∧ Tb T H ∧
  ∀ (p : Addr) (ys : List V) (H' : Hp), H' p = some (.tup ys) → DpAll K H' ys ((L.filter fun c => leN c.nm n).map chD) → Evs T H H' → Tb T H' → Q (.ref p) H'
def spUp (K : PySem.W.Frag) : Sp := fun vs H Q _ => ∃ (x y : V) (m n : Nm), vs = [x, y] ∧ Dp K H x (nmD m) ∧ Dp K H y (nmD n) ∧ m.2.length ≤ 100 ∧ n.2.length ≤ 100 ∧ ∀ H', Evs [] H H' → Q (.bl (leN m n)) H'
section
variable {P : Program} {w : World} {K : PySem.W.Frag} {mg : Str → Option Value} {base : Heap} {T : List Addr}
theorem ok_upto {f c Pt : Addr} {fd : FuncData} {k : Nat} (D : Def K "upto" sUpto f c fd) (t : Txt mg) (TB : GxR.TabB base mg c Pt) (hP : Pt ∈ T) : FnOk P w K mg base CX0 (k + 2) f fd ["ledger", "name"] (spUpto K T) := by
  refine D.ok scUpto (fun vs H Q E h => ?_) (fun A outer s H vs Q E hr h => ?_)
  · obtain ⟨lp, nv, xs, L, n, rfl, _⟩ := h
    rfl
  · obtain ⟨lp, nv, xs, L, n, rfl, hlp, dxs, l100, dn, tb, q⟩ := h
    refine ⟨_, pss_one (ps_ret (pe_tupG (own := [("change", 2)]) (g := gName 2) hr (by rfl) t.tup TB rfl scUpto.nd (pi_tup (pv 0))
      ⟨blkOk_by (N := ["ledger", "name", "change"]) (sc := defScope sUpto) (by decide +kernel), by decide +kernel, rfl, rfl, fun v => rfl, fun B s H C code fp ga => pg_name (i := 2) scUpto.nd rfl (.inl rfl) (.inr rfl),
        fun B s H C code fp ga => pts_one (pt_cmpR (show OpR _ _ (rLeN K) from op_leN (ga.room (k := k) hr).units) (pe_ix (show IxR _ (rIxT K) from ix_tup) (pv 2) pe_int (fun _ _ => rfl)) (pv 1) (nomark _)),
        fun B s H C code fp ga => pv 2⟩)), ?_⟩
    refine ⟨_, rfl, lp, rfl, ⟨_, hlp⟩, tb _ hP, fun H2 g2 => ?_⟩
    have gr : Grw T H H2 := Grw.one tb hP g2
    have e2 : Evs T H H2 := Grw.evs tb gr
    have dx2 := e2.dpAll (tup_chs L) dxs
    have dn2 := e2.dp (tup_nm n) dn
    have xl : xs.length = L.length := by rw [dpAll_len dxs, List.length_map]
    refine tg_tup (a := lp) (xs := xs) (fun i ys Hc => Hc = H2 ∧ ys.length ≤ i ∧ DpAll K H2 ys (((L.take i).filter fun c => leN c.nm n).map chD)) ⟨rfl, Nat.le_refl _, .nil⟩ (fun i ys Hc _ pv => by rw [pv.1]; exact e2.sqT hlp) (fun i x ys Hc hx pv => ?_) (fun ys Hc pv => ?_)
    · obtain ⟨rfl, yl, dy⟩ := pv
      refine ⟨wipe_set _ 2 _, ?_⟩
      obtain ⟨d, hd, dx⟩ := dpAll_at dx2 hx
      rw [List.getElem?_map] at hd
      obtain ⟨ch, hch, rfl⟩ := Option.map_eq_some_iff.mp hd
      obtain ⟨qv, v0, v2, v3, rfl, sq, d0, _, _⟩ := ch_parts dx
      have hi : i < xs.length := (List.getElem?_eq_some_iff.mp hx).1
      refine ⟨_, rfl, qv, _, 0, _, rfl, rfl, sq, at0, _, rfl, ch.nm, n, d0, dn2, _, rfl, ?_⟩
      have el : (!PySem.W.dataLt (nmD n) (nmD ch.nm)) = leN ch.nm n := rfl
      rw [el]
      cases hle : leN ch.nm n with
      | true =>
        refine iteT ⟨_, rfl, .inr ⟨_, if_pos (small1000 (by omega)), rfl, by rw [List.length_append, List.length_singleton]; omega, ?_⟩⟩
        rw [take_snoc hch, List.filter_append, List.map_append]
        have : ([ch].filter fun c => leN c.nm n).map chD = [chD ch] := by simp [hle]
        rw [this]
        exact dpAll_snoc dy dx
      | false =>
        refine iteF ⟨rfl, by omega, ?_⟩
        rw [take_snoc hch, List.filter_append, List.map_append]
        have : ([ch].filter fun c => leN c.nm n).map chD = [] := by simp [hle]
        rw [this, List.append_nil]
        exact dy
    · obtain ⟨rfl, yl, dy⟩ := pv
      rw [xl, List.take_length] at dy
      intro p np
      have k : Evs T Hc (upd Hc p (.tup ys)) := Evs.new np
      exact q p ys _ upd_same (k.dpAll (tup_chs _) dy) (e2.trans k) (gr.1.new np)
theorem ords_lc {x : Str} {g : TG} {tt : TT} {te : TE} {vs : List Nat} {σ : L2.St} {H1 : Hp} {D : Addr} {Qd : Hp → Prop} (Pv : Nat → Hp → Prop) (h0 : Pv 0 (upd H1 D (.lst [])))
    (hs : ∀ j c H, x.cps.toList[j]? = some c → Pv j H → g (.str ⟨#[c]⟩) (wipe σ vs) H fun σ2 H2 => wipe σ2 vs = wipe σ vs ∧ tt σ2 H2 fun b H3 =>
      if b = true then te σ2 H3 fun y H4 => ∃ acc, H4 D = some (.lst acc) ∧ acc.length < sizeLine ∧ Pv (j + 1) (upd H4 D (.lst (acc ++ [y]))) else Pv (j + 1) H3) (hd : ∀ H, Pv x.cps.size H → Qd H) :
    ∃ W : Nat → Nat → Hp → Prop, (∃ m, W 0 m (upd H1 D (.lst []))) ∧ ∀ i m H, W i m H →
      ((Its x).stop i H ∧ Qd H) ∨ ((Its x).go i H ∧ ∃ Nx : Hp → Prop, (∀ H', Nx H' → ∃ m', m' < m ∧ W (i + 1) m' H') ∧ ∀ v H', (Its x).yld i H v H' → g v (wipe σ vs) H' fun σ2 H2 => wipe σ2 vs = wipe σ vs ∧ tt σ2 H2 fun b H3 =>
        if b = true then te σ2 H3 fun y H4 => ∃ acc, H4 D = some (.lst acc) ∧ acc.length < sizeLine ∧ Nx (upd H4 D (.lst (acc ++ [y]))) else Nx H3) := by
  refine ⟨fun i m H => i + m = x.cps.size ∧ Pv i H, ⟨x.cps.size, by omega, h0⟩, fun i m H w => ?_⟩
  obtain ⟨e, pv⟩ := w
  by_cases hi : i < x.cps.size
  · refine .inr ⟨hi, fun H' => Pv (i + 1) H', fun H' n => ⟨m - 1, by omega, by omega, n⟩, fun v H' y => ?_⟩
    obtain ⟨rfl, c, hc, rfl⟩ := y
    exact hs i c H' (by rw [Array.getElem?_toList]; exact hc) pv
  · have e2 : i = x.cps.size := by omega
    subst e2
    exact .inl ⟨Nat.le_refl _, hd H pv⟩
abbrev ordV (c : Nat) : V := V.int (c : Int)
theorem ok_up {f c : Addr} {fd : FuncData} {k : Nat} (D : Def K "_law_is_up" sUp f c fd) (t : Txt mg) : FnOk P w K mg base CX0 (k + 1) f fd ["_law_name", "_law_other"] (spUp K) := by
  refine D.ok scUp (fun vs H Q E h => ?_) (fun A outer s H vs Q E hr h => ?_)
  · obtain ⟨x, y, m, n, rfl, _⟩ := h
    rfl
  · obtain ⟨x, y, m, n, rfl, dx, dy, lm, ln, q⟩ := h
    refine ⟨_, (pss_cons (ps_if (pt_cmpR op_ne (pe_ix (show IxR _ (rIxT K) from ix_tup) (pv 0) pe_int (fun _ _ => rfl)) (pe_ix (show IxR _ (rIxT K) from ix_tup) (pv 1) pe_int (fun _ _ => rfl)) (nomark _))
        (pss_one (ps_ret (pe_cmpR op_lt (pe_ix (show IxR _ (rIxT K) from ix_tup) (pv 0) pe_int (fun _ _ => rfl)) (pe_ix (show IxR _ (rIxT K) from ix_tup) (pv 1) pe_int (fun _ _ => rfl)) (nomark _))))
        pss_nil)
      (pss_cons (ps_par (i := 2) (j := 3) rfl scUp.nd rfl rfl (by decide) rfl rfl (pa_cons (pe_lc (own := [("_law_sign", 6)]) (g := gName 6) (tt := tYes) rfl scUp.nd (pi_str (pe_ix (show IxR _ (rIxT K) from ix_tup) (pv 0) pe_int (fun _ _ => rfl))) (blkOk_by (N := ["_law_name", "_law_other", "_law_mine", "_law_theirs", "_law_one", "_law_two", "_law_sign"]) (sc := defScope sUp) (by decide +kernel)) (fun _ _ _ _ _ => (pg_name (i := 6) scUp.nd rfl (Or.inl rfl))) (fun _ _ _ _ _ => pts_nil) (fun _ _ _ _ _ => (pe_callB call_ord (by rfl) t.ord boot_ord (pa_cons (pv 6) pa_nil)))) (pa_cons (pe_lc (own := [("_law_sign", 6)]) (g := gName 6) (tt := tYes) rfl scUp.nd (pi_str (pe_ix (show IxR _ (rIxT K) from ix_tup) (pv 1) pe_int (fun _ _ => rfl))) (blkOk_by (N := ["_law_name", "_law_other", "_law_mine", "_law_theirs", "_law_one", "_law_two", "_law_sign"]) (sc := defScope sUp) (by decide +kernel)) (fun _ _ _ _ _ => (pg_name (i := 6) scUp.nd rfl (Or.inl rfl))) (fun _ _ _ _ _ => pts_nil) (fun _ _ _ _ _ => (pe_callB call_ord (by rfl) t.ord boot_ord (pa_cons (pv 6) pa_nil)))) pa_nil)) rfl)
      (pss_cons (ps_for PassesOwn.never rfl (RZ.pi_zipA (by rfl) t.zip (pa_cons (pv 2) (pa_cons (pv 3) pa_nil))) (pg_tup rfl (pgs_cons (pg_name (i := 4) scUp.nd rfl (Or.inl rfl)) (pgs_cons (pg_name (i := 5) scUp.nd rfl (Or.inl rfl)) pgs_nil)))
        (pss_one (ps_if (pt_cmpR op_ne (pv 4) (pv 5) (nomark _))
        (pss_one (ps_ret (pe_cmpR op_lt (pv 4) (pv 5) (nomark _))))
        pss_nil)))
      (pss_one (ps_ret (pe_cmpR op_le (pe_callB call_len_seq (by rfl) t.len PySem.boot_len (pa_cons (pv 2) pa_nil)) (pe_callB call_len_seq (by rfl) t.len PySem.boot_len (pa_cons (pv 3) pa_nil)) (nomark _))))))), ?_⟩
    obtain ⟨qx, rfl, sx⟩ := dp_nm dx
    obtain ⟨qy, rfl, sy⟩ := dp_nm dy
    rw [leN_eq] at q
    refine ⟨_, rfl, qx, _, 0, _, rfl, rfl, sx, at0, _, rfl, qy, _, 0, _, rfl, rfl, sy, at0, rfl, _, rfl, ite2 (fun hne => ?_) (fun heq => ?_)⟩
    · have hne' : ¬ m.1 = n.1 := fun e => by
        have : (!decide (V.int m.1 = V.int n.1)) = true := hne
        rw [e] at this
        simp at this
      rw [if_neg hne'] at q
      exact ⟨_, rfl, qx, _, 0, _, rfl, rfl, sx, at0, _, rfl, qy, _, 0, _, rfl, rfl, sy, at0, _, _, rfl, rfl, q H (Evs.refl _ _)⟩
    · have heq' : m.1 = n.1 := by
        by_cases e : m.1 = n.1
        · exact e
        · exact absurd (show (!decide (V.int m.1 = V.int n.1)) = true by
            rw [decide_eq_false (fun z => e (V.int.inj z))]; rfl) heq
      rw [if_pos heq'] at q
      refine ⟨_, rfl, qx, _, 1, _, rfl, rfl, sx, rfl, m.2, rfl, fun L1 n1 => ?_⟩
      refine ords_lc (fun j Hc => Evs [] H Hc ∧ Hc L1 = some (.lst ((m.2.cps.toList.take j).map ordV))) ⟨Evs.new n1, upd_same⟩ (fun j cc Hc hc pv => ?_) (fun Hc pv => ?_)
      · obtain ⟨ec, hL⟩ := pv
        refine ⟨wipe_set _ 6 _, ?_⟩
        simp only [tYes, if_true]
        refine ⟨_, rfl, _, rfl, rfl, _, hL, small1000 (by rw [List.length_map, List.length_take, ← str_len]; omega), ec.put n1, ?_⟩
        rw [upd_same, take_snoc hc, List.map_append]
        rfl
      obtain ⟨e1, hL1⟩ := pv
      have s1 : m.2.cps.size = m.2.cps.toList.length := by simp
      rw [s1, List.take_length] at hL1
      refine ⟨_, rfl, qy, _, 1, _, rfl, rfl, e1.sqT sy, rfl, n.2, rfl, fun L2 n2 => ?_⟩
      have n12 : L1 ≠ L2 := ne_of_none hL1 n2
      refine ords_lc (fun j Hd => Evs [] Hc Hd ∧ Hd L2 = some (.lst ((n.2.cps.toList.take j).map ordV))) ⟨Evs.new n2, upd_same⟩ (fun j cc Hd hc pv => ?_) (fun Hd pv => ?_)
      · obtain ⟨ec, hL⟩ := pv
        refine ⟨wipe_set _ 6 _, ?_⟩
        simp only [tYes, if_true]
        refine ⟨_, rfl, _, rfl, rfl, _, hL, small1000 (by rw [List.length_map, List.length_take, ← str_len]; omega), ec.put n2, ?_⟩
        rw [upd_same, take_snoc hc, List.map_append]
        rfl
      obtain ⟨e2, hL2⟩ := pv
      have s2 : n.2.cps.size = n.2.cps.toList.length := by simp
      rw [s2, List.take_length] at hL2
      have hL1' := e2.ev _ _ hL1 List.not_mem_nil
      generalize hlm : m.2.cps.toList = l at hL1 hL1' q s1
      generalize hln : n.2.cps.toList = l' at hL2 q s2
      refine ⟨_, _, rfl, ?_⟩
      refine ⟨_, rfl, _, rfl, L1, L2, _, _, rfl, .inl ⟨.inl (.inl hL1'), .inl (.inl hL2), ?_⟩⟩
      refine for_zipM (a := L1) (b := L2) (xs := l.map ordV) (ys := l'.map ordV) (fun i σ Hc => ∃ v4 v5, σ = [some (.ref qx), some (.ref qy), some (.ref L1), some (.ref L2), v4, v5, none] ∧ Evs [] H Hc ∧ Hc L1 = some (.lst (l.map ordV)) ∧ Hc L2 = some (.lst (l'.map ordV)) ∧ lexLe l l' = lexLe (l.drop i) (l'.drop i) ∧ i ≤ l.length ∧ i ≤ l'.length)
        ⟨none, none, rfl, e1.trans e2, hL1', hL2, rfl, Nat.zero_le _, Nat.zero_le _⟩ (fun i σ Hc pv => ?_) (fun i x y Tp σ Hc hx hy pv nT => ?_) (fun i σ Hc pv hend => ?_)
      · obtain ⟨_, _, _, _, a1, a2, _⟩ := pv
        exact ⟨.inl (.inl a1), .inl (.inl a2)⟩
      · obtain ⟨v4, v5, rfl, ec, a1, a2, le, i1, i2⟩ := pv
        rw [List.getElem?_map] at hx hy
        obtain ⟨cx, hcx, rfl⟩ := Option.map_eq_some_iff.mp hx
        obtain ⟨cy, hcy, rfl⟩ := Option.map_eq_some_iff.mp hy
        have k : Evs [] Hc (upd Hc Tp (.tup [ordV cx, ordV cy])) := Evs.new nT
        have hlt1 := (List.getElem?_eq_some_iff.mp hcx).1
        have hlt2 := (List.getElem?_eq_some_iff.mp hcy).1
        rw [lexLe_drop hcx hcy] at le
        refine ⟨Tp, _, rfl, .inl (.inl upd_same), rfl, ?_⟩
        refine ⟨_, _, rfl, _, _, rfl, rfl, ?_⟩
        refine ⟨_, rfl, _, rfl, rfl, _, rfl, ite2 (fun hne => ?_) (fun heq => ?_)⟩
        · have hne' : ¬ cx = cy := fun e => by
            have : (!decide (ordV cx = ordV cy)) = true := hne
            rw [e] at this
            simp at this
          rw [if_neg hne'] at le
          refine ⟨_, rfl, _, rfl, _, _, rfl, rfl, ?_⟩
          have := q _ (ec.trans k)
          rw [le] at this
          have ed : decide ((cx : Int) < (cy : Int)) = decide (cx < cy) := decide_eq_decide.mpr (by omega)
          rw [← ed] at this
          exact this
        · have heq' : cx = cy := by
            by_cases e : cx = cy
            · exact e
            · have hn : ¬ ordV cx = ordV cy := fun z => e (by have := V.int.inj z; omega)
              exact absurd (show (!decide (ordV cx = ordV cy)) = true by simp [hn]) heq
          rw [if_pos heq'] at le
          exact ⟨_, _, rfl, ec.trans k, k.ev _ _ a1 List.not_mem_nil, k.ev _ _ a2 List.not_mem_nil, le, hlt1, hlt2⟩
      · obtain ⟨v4, v5, rfl, ec, a1, a2, le, i1, i2⟩ := pv
        rw [List.length_map, List.length_map] at hend
        rw [lexLe_end hend ⟨i1, i2⟩] at le
        refine ⟨_, rfl, L1, _, rfl, .inl (.inl (.inl a1)), _, rfl, L2, _, rfl, .inl (.inl (.inl a2)), _, _, rfl, rfl, ?_⟩
        have := q _ ec
        rw [le] at this
        rw [List.length_map, List.length_map]
        have ed : decide ((l.length : Int) ≤ (l'.length : Int)) = decide (l.length ≤ l'.length) := decide_eq_decide.mpr (by omega)
        rw [← ed] at this
        exact this
end
end K06

set_option maxHeartbeats 4000000
namespace K06
open PySem PySem.Spec PyProof.Rows L2 Mw
abbrev sNames : Stmt := topS 11
theorem scNames : FnScope ["_law_feed_here", "_law_world_here", "_law_words_here", "_law_names_here", "_law_found", "_law_k", "_law_name", "_law_way", "_law_near"] ["_law_feed_here", "_law_world_here", "_law_words_here"] (defScope sNames) := ⟨rfl, rfl, rfl, by decide +kernel, rfl, by decide +kernel, by decide +kernel⟩
def spNames (K : PySem.W.Frag) : Sp := fun vs H Q _ => ∃ (F C : Addr) (ns : List Int) (a : Wa) (cs : List Ch) (wl : Addr) (ws : List Str), vs = [.ref F, .ref a.W, .ref wl] ∧ ns.length ≤ 63 ∧ Fd F C ns H ∧ Apart F C a ∧ Wd K a cs H ∧
  H wl = some (.lst (ws.map V.str)) ∧ 0 < ws.length ∧ ws.length ≤ 6 ∧ (∀ z ∈ ws, Wrd z) ∧ (∀ n ∈ names cs, Wrd n.2) ∧ cs.length ≤ 50 ∧
  ∀ (Lf : Addr) (fs : List Nm) (bf : List Addr) (H' : Hp), H' Lf = some (.lst (bf.map V.ref)) → Nms H' fs bf → 0 < fs.length → fs.length ≤ 6 → (∀ n ∈ fs, n.2.length ≤ 100) → Fd F C ns H' → Evs [F] H H' → Q (.ref Lf) H'
section
variable {P : Program} {w : World} {K : PySem.W.Frag} {mg : Str → Option Value} {base : Heap}
theorem ok_names {f c fD : Addr} {fd fdD : FuncData} (D : Def K "_law_names" sNames f c fd) (t : Txt mg) (kD : PySem.W.keepIn K (.ref fD) = true) (bD : Binds K fdD ["_law_feed_here", "_law_many"] []) (gD : mg "_law_draw" = some (.ref fD))
    (GD : FnOk P w K mg base CX0 1 fD fdD ["_law_feed_here", "_law_many"] spDraw) : FnOk P w K mg base CX0 2 f fd ["_law_feed_here", "_law_world_here", "_law_words_here"] (spNames K) := by
  refine D.ok scNames (fun vs H Q E h => ?_) (fun A outer s H vs Q E hr h => ?_)
  · obtain ⟨F, C, ns, a, cs, wl, ws, rfl, _⟩ := h
    rfl
  · obtain ⟨F, C, ns, a, cs, wl, ws, rfl, hl, fd, ap, wd, hwl, w0, w6, wrd, cw, c50, q⟩ := h
    have hr1 : Room 1 _ := hr
    have hu := hu_of hr
    have hu64 := hr.units
    have hu16 := r16 hr
    refine ⟨_, (pss_cons (ps_set (i := 3) scNames.nd rfl (by first | exact Or.inl rfl | exact Or.inr rfl) (pe_callB (call_sortT rfl hu16) (by rfl) t.sorted boot_sorted (pa_cons (pe_dget hu (pv 1) pe_str (fun _ _ => rfl)) pa_nil)))
      (pss_cons (ps_set (i := 4) scNames.nd rfl (by first | exact Or.inl rfl | exact Or.inr rfl) (pe_lst (pa_cons (pe_tup (pa_cons pe_int (pa_cons pe_str pa_nil))) (pa_cons (pe_tup (pa_cons (pe_op op_mulW (pe_op op_pow pe_int pe_int) (pe_op op_pow pe_int pe_int)) (pa_cons pe_str pa_nil))) (pa_cons (pe_tup (pa_cons (pe_op op_add pe_int (pe_call GD hr1 (by rfl) gD kD bD .nil pass0 (pa_cons (pv 0) (pa_cons pe_int pa_nil)))) (pa_cons (pe_ix (show IxR _ (rIxL K) from ix_list) (pv 2) (pe_call GD hr1 (by rfl) gD kD bD .nil pass0 (pa_cons (pv 0) (pa_cons (pe_callB call_len_seq (by rfl) t.len PySem.boot_len (pa_cons (pv 2) pa_nil)) pa_nil))) (fun _ _ => rfl)) pa_nil))) pa_nil)))))
      (pss_cons (ps_for PassesOwn.never rfl (pi_range1 (by rfl) t.range (pa_cons (pe_op op_mul pe_int (pe_callTy call_int1 (by rfl) t.int PyProof.Rows.boot_int (pa_cons (pe_cmpR (op_neD hu64) (pv 3) (pe_lst pa_nil) (nomark _)) pa_nil))) pa_nil)) (pg_name (i := 5) scNames.nd rfl (Or.inl rfl))
        (pss_cons (ps_set (i := 6) scNames.nd rfl (by first | exact Or.inl rfl | exact Or.inr rfl) (pe_ix (show IxR _ (rIxL K) from ix_list) (pv 3) (pe_call GD hr1 (by rfl) gD kD bD .nil pass0 (pa_cons (pv 0) (pa_cons (pe_callB call_len_seq (by rfl) t.len PySem.boot_len (pa_cons (pv 3) pa_nil)) pa_nil))) (fun _ _ => rfl)))
      (pss_cons (ps_set (i := 7) scNames.nd rfl (by first | exact Or.inl rfl | exact Or.inr rfl) (pe_call GD hr1 (by rfl) gD kD bD .nil pass0 (pa_cons (pv 0) (pa_cons pe_int pa_nil))))
      (pss_cons (ps_set (i := 8) scNames.nd rfl (by first | exact Or.inl rfl | exact Or.inr rfl) (pe_lst (pa_cons (pv 6) (pa_cons (pv 6) (pa_cons (pe_tup (pa_cons (pe_ix (show IxR _ (rIxT K) from ix_tup) (pv 6) pe_int (fun _ _ => rfl)) (pa_cons (pe_slice sl_str (pe_op op_add_str (pe_ix (show IxR _ (rIxT K) from ix_tup) (pv 6) pe_int (fun _ _ => rfl)) pe_str) po_none (po_some pe_int)) pa_nil))) (pa_cons (pe_tup (pa_cons (pe_ix (show IxR _ (rIxT K) from ix_tup) (pv 6) pe_int (fun _ _ => rfl)) (pa_cons pe_str pa_nil))) (pa_cons (pe_tup (pa_cons (pe_op op_add (pe_ix (show IxR _ (rIxT K) from ix_tup) (pv 6) pe_int (fun _ _ => rfl)) pe_int) (pa_cons (pe_ix (show IxR _ (rIxT K) from ix_tup) (pv 6) pe_int (fun _ _ => rfl)) pa_nil))) pa_nil)))))))
      (pss_one (ps_expr (pe_bm PySem.F.plainAttrs_list PySem.F.slot_list_append PySem.F.type_list_append mt_append (pv 4) (pa_cons (pe_ix (show IxR _ (rIxL K) from ix_list) (pv 8) (pv 7) (fun _ _ => rfl)) pa_nil))))))))
      (pss_one (ps_ret (pv 4)))))), ?_⟩
    obtain ⟨kF, hF, _⟩ := fd.ex
    have wlF : wl ≠ F := ne_of hwl hF (fun z => by cases z)
    obtain ⟨kw, w1, w2, _⟩ := wd.w
    obtain ⟨k1, p1, p2⟩ := wd.c1
    refine ⟨_, rfl, a.W, _, rfl, dg (k := kCh) w1 w2, a.A1, k1, names cs, rfl, p1, pair_keys (P := fun c v => Dp K H v (chD c)) p2, fun Ln bn nLn nmn => ?_⟩
    have e1 : Evs [F] H (upd H Ln (.lst (bn.map V.ref))) := Evs.new nLn
    have fd1 := fd.new (o := .lst (bn.map V.ref)) nLn
    have hLn1 : (upd H Ln (.lst (bn.map V.ref))) Ln = some (.lst (bn.map V.ref)) := upd_same
    generalize upd H Ln (.lst (bn.map V.ref)) = H1 at e1 fd1 hLn1 ⊢
    have nm1 := Nms.evs e1 nmn
    have LnF := (fd.apart nLn).1
    -- three names
    refine ⟨(by show 2 ≤ sizeLine; decide), fun t1 n1 => ?_⟩
    have e2 : Evs [F] H (upd H1 t1 (.tup [V.int 1, V.str (Str.ofString "a")])) := e1.trans (Evs.new n1)
    have k12 : Evs [F] H1 (upd H1 t1 (.tup [V.int 1, V.str (Str.ofString "a")])) := Evs.new n1
    have fd2 := fd1.new (o := .tup [V.int 1, V.str (Str.ofString "a")]) n1
    have a1 : NmA (upd H1 t1 (.tup [V.int 1, V.str (Str.ofString "a")])) (1, Str.ofString "a") t1 := upd_same
    generalize upd H1 t1 (.tup [V.int 1, V.str (Str.ofString "a")]) = H2 at e2 k12 fd2 a1 ⊢
    refine ⟨_, _, rfl, rfl, ⟨by decide, by decide, by decide⟩, _, _, rfl, rfl, ⟨by decide, by decide, by decide⟩, _, _, rfl, rfl, (by unfold CMulW; decide +kernel), (by show 2 ≤ sizeLine; decide), fun t2 n2 => ?_⟩
    have k23 : Evs [F] H2 (upd H2 t2 (.tup [V.int (10 ^ Int.toNat 60 * 10 ^ Int.toNat 60), V.str (Str.ofString "zzzzzzzz")])) := Evs.new n2
    have fd3 := fd2.new (o := .tup [V.int (10 ^ Int.toNat 60 * 10 ^ Int.toNat 60), V.str (Str.ofString "zzzzzzzz")]) n2
    have a2 : NmA (upd H2 t2 (.tup [V.int (10 ^ Int.toNat 60 * 10 ^ Int.toNat 60), V.str (Str.ofString "zzzzzzzz")])) (10 ^ Int.toNat 60 * 10 ^ Int.toNat 60, Str.ofString "zzzzzzzz") t2 := upd_same
    generalize upd H2 t2 (.tup [V.int (10 ^ Int.toNat 60 * 10 ^ Int.toNat 60), V.str (Str.ofString "zzzzzzzz")]) = H3 at k23 fd3 a2 ⊢
    refine ⟨_, rfl, F, C, ns, 16, rfl, by decide, by decide, hl, fd3, fun r4 H4 r40 r41 fd4 ev4 => ?_⟩
    have k34 := ev4.evs fd3 fd4
    have hwl4 := ((e2.trans k23).trans k34).ev _ _ hwl (by simpa using wlF)
    refine ⟨_, _, rfl, rfl, _, rfl, _, rfl, _, rfl, wl, _, rfl, .inl (.inl (.inl hwl4)), F, C, ns, _, rfl, by rw [List.length_map]; omega, by rw [List.length_map]; omega, hl, fd4, fun r5 H5 r50 r51 fd5 ev5 => ?_⟩
    have k45 := ev5.evs fd4 fd5
    obtain ⟨v, hv, hmem, _⟩ := val_at (xs := ws.map V.str) r50 r51
    obtain ⟨br, hbr, rfl⟩ := List.mem_map.mp hmem
    refine ⟨wl, _, r5, _, rfl, rfl, .inl (.inl (ev5 _ _ hwl4 wlF)), hv, (by show 2 ≤ sizeLine; decide), fun t3 n3 => ?_⟩
    have k56 : Evs [F] H5 (upd H5 t3 (.tup [V.int (1 + r4), V.str br])) := Evs.new n3
    have fd6 := fd5.new (o := .tup [V.int (1 + r4), V.str br]) n3
    have a3 : NmA (upd H5 t3 (.tup [V.int (1 + r4), V.str br])) (1 + r4, br) t3 := upd_same
    generalize upd H5 t3 (.tup [V.int (1 + r4), V.str br]) = H6 at k56 fd6 a3 ⊢
    refine ⟨(by show 3 ≤ sizeLine; decide), fun Lf nLf => ?_⟩
    have k26 : Evs [F] H2 H6 := ((k23.trans k34).trans k45).trans k56
    have e6 : Evs [F] H H6 := e2.trans k26
    have k36 : Evs [F] H3 H6 := (k34.trans k45).trans k56
    have hLn6 := (k12.trans k26).ev _ _ hLn1 (by simpa using LnF)
    have k67 : Evs [F] H6 (upd H6 Lf (.lst [V.ref t1, V.ref t2, V.ref t3])) := Evs.new nLf
    have nLfH : H Lf = none := e6.th Lf nLf
    have LfF := (fd6.apart nLf).1
    have LfC := (fd6.apart nLf).2
    have e7 : Evs [F] H (upd H6 Lf (.lst [V.ref t1, V.ref t2, V.ref t3])) := e6.trans k67
    have fd7 := fd6.new (o := .lst [V.ref t1, V.ref t2, V.ref t3]) nLf
    have hLf7 : (upd H6 Lf (.lst [V.ref t1, V.ref t2, V.ref t3])) Lf = some (.lst ([t1, t2, t3].map V.ref)) := upd_same
    generalize upd H6 Lf (.lst [V.ref t1, V.ref t2, V.ref t3]) = H7 at k67 e7 fd7 hLf7 ⊢
    have nf7 : Nms H7 [(1, Str.ofString "a"), (10 ^ Int.toNat 60 * 10 ^ Int.toNat 60, Str.ofString "zzzzzzzz"), (1 + r4, br)] [t1, t2, t3] := .cons ((a1.evs k26).evs k67) (.cons ((a2.evs k36).evs k67) (.cons (a3.evs k67) .nil))
    have k17 : Evs [F] H1 H7 := (k12.trans k26).trans k67
    have hLn7 := k17.ev _ _ hLn1 (by simpa using LnF)
    have nm7 := Nms.evs k17 nm1
    have sh7 : ∀ n ∈ [(1, Str.ofString "a"), (10 ^ Int.toNat 60 * 10 ^ Int.toNat 60, Str.ofString "zzzzzzzz"), (1 + r4, br)], n.2.length ≤ 100 := by
      intro n hn
      simp only [List.mem_cons, List.not_mem_nil, or_false] at hn
      rcases hn with h | h | h
      · rw [h]; decide +kernel
      · rw [h]; decide +kernel
      · rw [h]; have := (wrd br hbr).most; show br.length ≤ 100; omega
    generalize hfs0 : [((1 : Int), Str.ofString "a"), (10 ^ Int.toNat 60 * 10 ^ Int.toNat 60, Str.ofString "zzzzzzzz"), (1 + r4, br)] = fs0 at nf7 sh7
    have fl3 : fs0.length = 3 := by rw [← hfs0]; rfl
    clear hfs0 a1 a2 a3
    -- whether there are names
    refine ⟨_, rfl, Nat.zero_le _, fun p np => ?_⟩
    have k78 : Evs [F] H7 (upd H7 p (.lst [])) := Evs.new np
    have e8 : Evs [F] H (upd H7 p (.lst [])) := e7.trans k78
    have fd8 := fd7.new (o := .lst []) np
    have hp8 : (upd H7 p (.lst [])) p = some (.lst []) := upd_same
    have hLf8 : (upd H7 p (.lst [])) Lf = some (.lst ([t1, t2, t3].map V.ref)) := by rw [upd_ne (ne_of_none hLf7 np)]; exact hLf7
    have hLn8 : (upd H7 p (.lst [])) Ln = some (.lst (bn.map V.ref)) := by rw [upd_ne (ne_of_none hLn7 np)]; exact hLn7
    generalize upd H7 p (.lst []) = H8 at k78 e8 fd8 hp8 hLf8 hLn8 ⊢
    have nm8 := Nms.evs k78 nm7
    have nf8 := Nms.evs k78 nf7
    refine ⟨.list ((srt (names cs)).map nmD), .list [], .lst (.inl (.inl hLn8)) nm8.dpAll, .lst (.inl (.inl hp8)) .nil, shNms (fun n hn => cw n (mem_srt.mp hn)), by decide +kernel, ?_⟩
    rw [eqvNilN]
    obtain ⟨N, hN, hN0, hN3⟩ : ∃ N : Nat, (3 * (if (!decide (srt (names cs) = [])) = true then 1 else 0) : Int) = N ∧ (N ≠ 0 → srt (names cs) ≠ []) ∧ N ≤ 3 := by
      by_cases h0 : srt (names cs) = []
      · exact ⟨0, by simp [h0], fun h => absurd rfl h, by decide⟩
      · exact ⟨3, by simp [h0], fun _ => h0, by decide⟩
    have bnl : bn.length = (srt (names cs)).length := nmn.len.symm
    have bn50 : bn.length ≤ 50 := by rw [bnl, srt_len, List.length_map]; exact c50
    refine .inr ⟨_, rfl, _, _, rfl, rfl, .inl ⟨by decide, by decide⟩, (N : Int), congrArg (fun i => [V.int i]) hN, by omega, by omega, for_range (n := N) (fun i σ Hc => ∃ v5 v6 v7 v8, σ = [some (.ref F), some (.ref a.W), some (.ref wl), some (.ref Ln), some (.ref Lf), v5, v6, v7, v8] ∧ Fd F C ns Hc ∧ Evs [F] H Hc ∧ Hc Ln = some (.lst (bn.map V.ref)) ∧ Nms Hc (srt (names cs)) bn ∧
      ∃ (fs : List Nm) (bf : List Addr), Hc Lf = some (.lst (bf.map V.ref)) ∧ Nms Hc fs bf ∧ fs.length = 3 + i ∧ ∀ n ∈ fs, n.2.length ≤ 100) ⟨none, none, none, none, rfl, fd8, e8, hLn8, nm8, fs0, [t1, t2, t3], hLf8, nf8, fl3, sh7⟩ ?_ ?_⟩
    · rintro i σ Hc hi ⟨v5, v6, v7, v8, rfl, fdc, ec, hLn, nmc, fs, bf, hLf, nfc, hfl, hsh⟩
      have hne := hN0 (by omega)
      have npos : 0 < bn.length := by rw [bnl]; exact List.length_pos_iff.mpr hne
      refine ⟨_, rfl, _, rfl, _, rfl, Ln, _, rfl, .inl (.inl (.inl hLn)), F, C, ns, _, rfl, by rw [List.length_map]; omega, by rw [List.length_map]; omega, hl, fdc, fun ra Ha ra0 ra1 fda eva => ?_⟩
      have eca := eva.evs fdc fda
      have hLna := eva _ _ hLn LnF
      obtain ⟨v, hv, hmem, hat⟩ := val_at (xs := bn.map V.ref) ra0 ra1
      rw [List.getElem?_map] at hat
      obtain ⟨b, hb, rfl⟩ := Option.map_eq_some_iff.mp hat
      obtain ⟨n, hn, an⟩ := nmc.at hb
      have nin : n ∈ names cs := mem_srt.mp (List.mem_of_getElem? hn)
      have nw := cw n nin
      refine ⟨Ln, _, ra, _, rfl, rfl, .inl (.inl hLna), hv, ?_⟩
      refine ⟨_, rfl, F, C, ns, 5, rfl, by decide, by decide, hl, fda, fun rb Hb rb0 rb1 fdb evb => ?_⟩
      have ecb := eca.trans (evb.evs fda fdb)
      have anb : NmA Hb n b := an.evs ecb
      have aa : Asc 8 n.2 := ⟨nw.most, fun c hc => by have := nw.low c hc; omega⟩
      have a1' : Asc 1 (Str.ofString "a") := asc_of (by decide +kernel)
      have apa := aa.app a1'
      have la : (Str.ofString "a").length = 1 := by decide +kernel
      refine ⟨_, rfl, _, rfl, _, rfl, b, _, 0, _, rfl, rfl, .inl (.inl anb), at0, _, rfl, b, _, 1, _, rfl, rfl, .inl (.inl anb), rfl, _, _, rfl, rfl, (by rw [la, sizeLine_eq]; have := nw.most; omega), 8, rfl, _, rfl, apa.line (by decide), (by show 2 ≤ sizeLine; decide), fun q1 m1 => ?_⟩
      have acut := apa.cut none (some 8)
      generalize cutS (n.2 ++ Str.ofString "a") none (some 8) = z8 at acut m1 ⊢
      have kb1 : Evs [F] Hb (upd Hb q1 (.tup [V.int n.1, V.str z8])) := Evs.new m1
      have fdx := fdb.new (o := .tup [V.int n.1, V.str z8]) m1
      have c1 : NmA (upd Hb q1 (.tup [V.int n.1, V.str z8])) (n.1, z8) q1 := upd_same
      generalize upd Hb q1 (.tup [V.int n.1, V.str z8]) = Hx at kb1 fdx c1 ⊢
      have anx := anb.evs kb1
      refine ⟨_, rfl, b, _, 0, _, rfl, rfl, .inl (.inl anx), at0, (by show 2 ≤ sizeLine; decide), fun q2 m2 => ?_⟩
      have kx2 : Evs [F] Hx (upd Hx q2 (.tup [V.int n.1, V.str (Str.ofString "a")])) := Evs.new m2
      have fdy := fdx.new (o := .tup [V.int n.1, V.str (Str.ofString "a")]) m2
      have c2 : NmA (upd Hx q2 (.tup [V.int n.1, V.str (Str.ofString "a")])) (n.1, Str.ofString "a") q2 := upd_same
      generalize upd Hx q2 (.tup [V.int n.1, V.str (Str.ofString "a")]) = Hy at kx2 fdy c2 ⊢
      have any_ := anx.evs kx2
      refine ⟨_, rfl, b, _, 0, _, rfl, rfl, .inl (.inl any_), at0, _, _, rfl, rfl, _, rfl, b, _, 1, _, rfl, rfl, .inl (.inl any_), rfl, (by show 2 ≤ sizeLine; decide), fun q3 m3 => ?_⟩
      have ky3 : Evs [F] Hy (upd Hy q3 (.tup [V.int (n.1 + 1), V.str n.2])) := Evs.new m3
      have fdz := fdy.new (o := .tup [V.int (n.1 + 1), V.str n.2]) m3
      have c3 : NmA (upd Hy q3 (.tup [V.int (n.1 + 1), V.str n.2])) (n.1 + 1, n.2) q3 := upd_same
      generalize upd Hy q3 (.tup [V.int (n.1 + 1), V.str n.2]) = Hz at ky3 fdz c3 ⊢
      refine ⟨(by show 5 ≤ sizeLine; decide), fun Lq nq => ?_⟩
      have kzq : Evs [F] Hz (upd Hz Lq (.lst [V.ref b, V.ref b, V.ref q1, V.ref q2, V.ref q3])) := Evs.new nq
      have fdq := fdz.new (o := .lst [V.ref b, V.ref b, V.ref q1, V.ref q2, V.ref q3]) nq
      have hLq : (upd Hz Lq (.lst [V.ref b, V.ref b, V.ref q1, V.ref q2, V.ref q3])) Lq = some (.lst [V.ref b, V.ref b, V.ref q1, V.ref q2, V.ref q3]) := upd_same
      generalize upd Hz Lq (.lst [V.ref b, V.ref b, V.ref q1, V.ref q2, V.ref q3]) = Hq at kzq fdq hLq ⊢
      have kcz : Evs [F] Hc Hq := (((ecb.trans kb1).trans kx2).trans ky3).trans kzq
      have hLfq := kcz.ev _ _ hLf (by simpa using LfF)
      have hLnq := kcz.ev _ _ hLn (by simpa using LnF)
      obtain ⟨v, hv2, hmem2, _⟩ := val_at (xs := [V.ref b, V.ref b, V.ref q1, V.ref q2, V.ref q3]) rb0 rb1
      obtain ⟨b', n', rfl, an', ln'⟩ : ∃ (b' : Addr) (n' : Nm), v = .ref b' ∧ NmA Hq n' b' ∧ n'.2.length ≤ 100 := by
        simp only [List.mem_cons, List.not_mem_nil, or_false] at hmem2
        have wn : n.2.length ≤ 100 := by have := nw.most; omega
        rcases hmem2 with h | h | h | h | h
        · exact ⟨b, n, h, an.evs kcz, wn⟩
        · exact ⟨b, n, h, an.evs kcz, wn⟩
        · exact ⟨q1, _, h, ((c1.evs kx2).evs ky3).evs kzq, by have := acut.1; show z8.length ≤ 100; omega⟩
        · exact ⟨q2, _, h, (c2.evs ky3).evs kzq, by show (Str.ofString "a").length ≤ 100; rw [la]; decide⟩
        · exact ⟨q3, _, h, c3.evs kzq, wn⟩
      have bfl : bf.length = fs.length := nfc.len.symm
      refine ⟨_, rfl, .inl ⟨rfl, _, .inl (.inl hLfq)⟩, _, rfl, _, rfl, Lq, _, rb, _, rfl, rfl, .inl (.inl hLq), hv2, Lf, _, _, rfl, rfl, hLfq, small1000 (by rw [List.length_map]; omega), ?_⟩
      have own : Evs [F, Lf] Hq (upd Hq Lf (.lst (bf.map V.ref ++ [V.ref b']))) := Evs.own (by simp) hLfq (fun xs z => by cases z) (fun ob y z => by cases z)
      have LnLf : Ln ≠ Lf := ne_of_none hLn6 nLf
      refine ⟨_, _, _, _, rfl, fdq.over hLfq LfF LfC, (ec.trans kcz).put nLfH, by rw [upd_ne LnLf]; exact hLnq, Nms.evs own (Nms.evs kcz nmc), fs ++ [n'], bf ++ [b'], by rw [upd_same, List.map_append]; rfl, Nms.evs own ((Nms.evs kcz nfc).snoc an'), by rw [List.length_append, List.length_singleton]; omega, fun m hm => ?_⟩
      rcases List.mem_append.mp hm with h | h
      · exact hsh m h
      · rw [List.mem_singleton.mp h]; exact ln'
    · rintro σ Hc ⟨v5, v6, v7, v8, rfl, fdc, ec, hLn, nmc, fs, bf, hLf, nfc, hfl, hsh⟩
      exact ⟨_, rfl, q Lf fs bf Hc hLf nfc (by omega) (by omega) hsh fdc ec⟩
end
end K06

set_option maxHeartbeats 4000000
namespace K06
open PySem PySem.Spec PyProof.Rows L2 Mw
abbrev sLaw : Stmt := topS 12
theorem scLaw : FnScope ["_law_script", "_law_feed_here", "_law_words_here", "_law_world_here", "_law_ledger_here", "_law_stayed", "_law_names_here", "_law_name", "_law_told", "_law_other", "_law_due", "_law_change"] ["_law_script"] (defScope sLaw) := ⟨rfl, rfl, rfl, by decide +kernel, rfl, by decide +kernel, by decide +kernel⟩
def spLaw (K : PySem.W.Frag) (T : List Addr) : Sp := fun vs H Q _ => ∃ (a : Addr) (ns : List Int), vs = [.ref a] ∧ SqL K H a (ns.map V.int) ∧ ns.length ≤ 63 ∧ Tb T H ∧ ∀ H', Q (.bl true) H'
theorem keys_nms {H : Hp} : ∀ {kvs : List (List Key × V)} {bs : List Addr} {ns : List Nm}, IsKeys H kvs bs → kvs.map (·.1) = ns.map nmK → Nms H ns bs
  | _, _, [], .nil, _ => .nil
  | _, _, n :: ns, .cons h t, e => by
    have e1 := List.cons.inj e
    refine .cons ?_ (keys_nms t e1.2)
    show H _ = some (.tup (nmV n))
    rw [← nmKV, ← e1.1]
    exact h
  | _, _, n :: ns, .nil, e => by cases e
  | _, _, [], .cons h t, e => by cases e
theorem led_mem {cs : List Ch} {nms : List Nm} : ∀ c ∈ ledP cs nms, c ∈ cs := fun c hc => by
  unfold ledP at hc
  obtain ⟨n, _, hn⟩ := List.mem_filterMap.mp hc
  exact List.mem_of_find?_eq_some hn
theorem led_len {cs : List Ch} {nms : List Nm} : (ledP cs nms).length ≤ cs.length := by
  unfold ledP
  have h1 : (((srt (names cs)).filter fun n => decide (n ∈ nms)).filterMap (findC cs)).length ≤ ((srt (names cs)).filter fun n => decide (n ∈ nms)).length := List.length_filterMap_le ..
  have h2 : ((srt (names cs)).filter fun n => decide (n ∈ nms)).length ≤ (srt (names cs)).length := List.length_filter_le ..
  rw [srt_len, List.length_map] at h2
  omega
theorem notT {T : List Addr} {H : Hp} {b : Addr} {o : HO} (t : Tb T H) (e : H b = some o) (h : ∀ ps, o ≠ .tbl ps) : b ∉ T := fun hb => by
  obtain ⟨ps, h1, _⟩ := t b hb
  rw [h1] at e
  cases e
  exact h ps rfl
theorem cut1 (bs : List Addr) : cutV (bs.map V.ref) none (some 1) = (bs.take 1).map V.ref := by
  unfold cutV
  rw [HT.sIx_none, show HT.sIx (bs.map V.ref).length (bs.map V.ref).length (some 1) = min 1 (bs.map V.ref).length from HT.sIx_nat _ _ 1, List.drop_zero, Nat.sub_zero]
  cases bs with
  | nil => rfl
  | cons b r => simp
theorem nms_app {H : Hp} : ∀ {ns ms : List Nm} {bs ds : List Addr}, Nms H ns bs → Nms H ms ds → Nms H (ns ++ ms) (bs ++ ds)
  | _, _, _, _, .nil, h => h
  | _, _, _, _, .cons h t, h2 => .cons h (nms_app t h2)
theorem nms_take {H : Hp} : ∀ {ns : List Nm} {bs : List Addr} (k : Nat), Nms H ns bs → Nms H (ns.take k) (bs.take k)
  | _, _, 0, _ => by simp only [List.take_zero]; exact .nil
  | _, _, k + 1, .nil => by simp only [List.take_nil]; exact .nil
  | _, _, k + 1, .cons h t => by simp only [List.take_succ_cons]; exact .cons h (nms_take k t)
section
variable {P : Program} {w : World} {K : PySem.W.Frag} {mg : Str → Option Value} {base : Heap} {T : List Addr}
theorem ok_law {f c fD fF fW fWo fLe fNa fUp fUt : Addr} {fd fdD fdF fdW fdWo fdLe fdNa fdUp fdUt : FuncData} (D : Def K "law" sLaw f c fd) (t : Txt mg)
    (kD : PySem.W.keepIn K (.ref fD) = true) (bD : Binds K fdD ["_law_feed_here", "_law_many"] []) (gD : mg "_law_draw" = some (.ref fD)) (GD : FnOk P w K mg base CX0 1 fD fdD ["_law_feed_here", "_law_many"] spDraw)
    (kF : PySem.W.keepIn K (.ref fF) = true) (bF : Binds K fdF ["_law_script"] []) (gF : mg "_law_feed" = some (.ref fF)) (GF : FnOk P w K mg base CX0 1 fF fdF ["_law_script"] (spFeed K))
    (kW : PySem.W.keepIn K (.ref fW) = true) (bW : Binds K fdW ["_law_feed_here", "_law_many"] []) (gW : mg "_law_words" = some (.ref fW)) (GW : FnOk P w K mg base CX0 2 fW fdW ["_law_feed_here", "_law_many"] spWords)
    (kWo : PySem.W.keepIn K (.ref fWo) = true) (bWo : Binds K fdWo ["_law_feed_here", "_law_words_here", "_law_many"] []) (gWo : mg "_law_world" = some (.ref fWo)) (GWo : FnOk P w K mg base CX0 4 fWo fdWo ["_law_feed_here", "_law_words_here", "_law_many"] (spWorld K))
    (kLe : PySem.W.keepIn K (.ref fLe) = true) (bLe : Binds K fdLe ["_law_world_here", "_law_names_here"] []) (gLe : mg "_law_ledger" = some (.ref fLe)) (GLe : FnOk P w K mg base CX0 1 fLe fdLe ["_law_world_here", "_law_names_here"] (spLedger K))
    (kNa : PySem.W.keepIn K (.ref fNa) = true) (bNa : Binds K fdNa ["_law_feed_here", "_law_world_here", "_law_words_here"] []) (gNa : mg "_law_names" = some (.ref fNa)) (GNa : FnOk P w K mg base CX0 2 fNa fdNa ["_law_feed_here", "_law_world_here", "_law_words_here"] (spNames K))
    (kUp : PySem.W.keepIn K (.ref fUp) = true) (bUp : Binds K fdUp ["_law_name", "_law_other"] []) (gUp : mg "_law_is_up" = some (.ref fUp)) (GUp : FnOk P w K mg base CX0 1 fUp fdUp ["_law_name", "_law_other"] (spUp K))
    (kUt : PySem.W.keepIn K (.ref fUt) = true) (bUt : Binds K fdUt ["ledger", "name"] []) (gUt : mg "upto" = some (.ref fUt)) (GUt : FnOk P w K mg base CX0 2 fUt fdUt ["ledger", "name"] (spUpto K T)) :
    FnG P w K mg base 5 f fd ["_law_script"] (spLaw K T) := by
  refine D.okG scLaw (fun vs H Q E h => ?_) (fun A outer s H vs Q E hr hg h => ?_)
  · obtain ⟨a, ns, rfl, _⟩ := h
    rfl
  · obtain ⟨a, ns, rfl, hS, hl, tb, q⟩ := h
    have hr1 : Room 1 _ := hr.mono (by decide)
    have hr2 : Room 2 _ := hr.mono (by decide)
    have hu := hu_of hr
    have hu64 := hr.units
    have hgu : (A.deeper (envOfC "law" (defScope sLaw) s.heap.objs.size f (.ref c))).guards = some [] := hg
    refine ⟨_, (pss_cons (ps_set (i := 1) scLaw.nd rfl (by first | exact Or.inl rfl | exact Or.inr rfl) (pe_call GF hr1 (by rfl) gF kF bF .nil pass0 (pa_cons (pv 0) pa_nil)))
      (pss_cons (ps_set (i := 2) scLaw.nd rfl (by first | exact Or.inl rfl | exact Or.inr rfl) (pe_call GW hr2 (by rfl) gW kW bW .nil pass0 (pa_cons (pv 1) (pa_cons (pe_op op_add pe_int (pe_call GD hr1 (by rfl) gD kD bD .nil pass0 (pa_cons (pv 1) (pa_cons pe_int pa_nil)))) pa_nil))))
      (pss_cons (ps_set (i := 3) scLaw.nd rfl (by first | exact Or.inl rfl | exact Or.inr rfl) (pe_call GWo hr (by rfl) gWo kWo bWo .nil pass0 (pa_cons (pv 1) (pa_cons (pv 2) (pa_cons (pe_call GD hr1 (by rfl) gD kD bD .nil pass0 (pa_cons (pv 1) (pa_cons pe_int pa_nil))) pa_nil)))))
      (pss_cons (ps_set (i := 4) scLaw.nd rfl (by first | exact Or.inl rfl | exact Or.inr rfl) (pe_call GLe hr1 (by rfl) gLe kLe bLe .nil pass0 (pa_cons (pv 3) (pa_cons (pe_callTy (call_list_dT rfl) (by rfl) t.lst PyProof.Rows.boot_list (pa_cons (pe_dget hu (pv 3) pe_str (fun _ _ => rfl)) pa_nil)) pa_nil))))
      (pss_cons (ps_set (i := 5) scLaw.nd rfl (by first | exact Or.inl rfl | exact Or.inr rfl) (pe_callB (call_repr hgu hu64) (by rfl) t.repr boot_repr (pa_cons (pv 4) pa_nil)))
      (pss_cons (ps_set (i := 6) scLaw.nd rfl (by first | exact Or.inl rfl | exact Or.inr rfl) (pe_call GNa hr2 (by rfl) gNa kNa bNa .nil pass0 (pa_cons (pv 1) (pa_cons (pv 3) (pa_cons (pv 2) pa_nil)))))
      (pss_cons (ps_for PassesOwn.never rfl (pi_list (pe_op op_cat (pv 6) (pe_slice sl_list (pv 6) po_none (po_some pe_int)))) (pg_name (i := 7) scLaw.nd rfl (Or.inr rfl))
        (pss_cons (ps_set (i := 8) scLaw.nd rfl (by first | exact Or.inl rfl | exact Or.inr rfl) (pe_call GUt hr2 (by rfl) gUt kUt bUt .nil pass0 (pa_cons (pv 4) (pa_cons (pv 7) pa_nil))))
      (pss_cons (ps_if (pt_cmpR op_ne (pe_callB (call_repr hgu hu64) (by rfl) t.repr boot_repr (pa_cons (pv 8) pa_nil)) (pe_callB (call_repr hgu hu64) (by rfl) t.repr boot_repr (pa_cons (pe_callTy call_tuple_of (by rfl) t.tup PyProof.Rows.boot_tuple (pa_cons (pe_lc (own := [("_law_change", 11)]) (g := gName 11) rfl scLaw.nd (pi_tup (pv 4)) (blkOk_by (N := ["_law_script", "_law_feed_here", "_law_words_here", "_law_world_here", "_law_ledger_here", "_law_stayed", "_law_names_here", "_law_name", "_law_told", "_law_other", "_law_due", "_law_change"]) (sc := defScope sLaw) (by decide +kernel)) (fun _ _ _ _ _ => (pg_name (i := 11) scLaw.nd rfl (Or.inl rfl))) (fun _ _ _ _ _ => (pts_one (pt_val (pe_call GUp hr1 (by rfl) gUp kUp bUp .nil pass0 (pa_cons (pe_ix (show IxR _ (rIxT K) from ix_tup) (pv 11) pe_int (fun _ _ => rfl)) (pa_cons (pv 7) pa_nil)))))) (fun _ _ _ _ _ => (pv 11))) pa_nil)) pa_nil)) (nomark _))
        (pss_one (ps_ret pe_bl))
        pss_nil)
      (pss_cons (ps_set (i := 9) scLaw.nd rfl (by first | exact Or.inl rfl | exact Or.inr rfl) (pe_ix (show IxR _ (rIxL K) from ix_list) (pv 6) (pe_call GD hr1 (by rfl) gD kD bD .nil pass0 (pa_cons (pv 1) (pa_cons (pe_callB call_len_seq (by rfl) t.len PySem.boot_len (pa_cons (pv 6) pa_nil)) pa_nil))) (fun _ _ => rfl)))
      (pss_cons (ps_setLc (i := 10) (own := [("_law_change", 11)]) (g := gName 11) rfl scLaw.nd rfl rfl (sw_true rfl rfl rfl (by decide +kernel)) (pi_tup (pv 4)) (blkOk_by (N := ["_law_script", "_law_feed_here", "_law_words_here", "_law_world_here", "_law_ledger_here", "_law_stayed", "_law_names_here", "_law_name", "_law_told", "_law_other", "_law_due", "_law_change"]) (sc := defScope sLaw) (by decide +kernel)) (fun _ _ _ _ _ => (pg_name (i := 11) scLaw.nd rfl (Or.inl rfl))) (fun _ _ _ _ _ => (pts_one (PW.pt (pw_and (pt_val (pe_call GUp hr1 (by rfl) gUp kUp bUp .nil pass0 (pa_cons (pe_ix (show IxR _ (rIxT K) from ix_tup) (pv 11) pe_int (fun _ _ => rfl)) (pa_cons (pv 7) pa_nil)))) (pw_and1 (pt_val (pe_call GUp hr1 (by rfl) gUp kUp bUp .nil pass0 (pa_cons (pe_ix (show IxR _ (rIxT K) from ix_tup) (pv 11) pe_int (fun _ _ => rfl)) (pa_cons (pv 9) pa_nil))))))))) (fun _ _ _ _ _ => (pv 11)))
      (pss_one (ps_if (PW.pt (pw_or (pt_cmpR op_ne (pe_callB (call_repr hgu hu64) (by rfl) t.repr boot_repr (pa_cons (pe_call GUt hr2 (by rfl) gUt kUt bUt .nil pass0 (pa_cons (pv 8) (pa_cons (pv 9) pa_nil))) pa_nil)) (pe_callB (call_repr hgu hu64) (by rfl) t.repr boot_repr (pa_cons (pe_callTy call_tuple_of (by rfl) t.tup PyProof.Rows.boot_tuple (pa_cons (pv 10) pa_nil)) pa_nil)) (nomark _)) (pw_or1 (pt_cmpR op_ne (pe_callB (call_repr hgu hu64) (by rfl) t.repr boot_repr (pa_cons (pe_call GUt hr2 (by rfl) gUt kUt bUt .nil pass0 (pa_cons (pv 8) (pa_cons (pv 7) pa_nil))) pa_nil)) (pe_callB (call_repr hgu hu64) (by rfl) t.repr boot_repr (pa_cons (pv 8) pa_nil)) (nomark _)))))
        (pss_one (ps_ret pe_bl))
        pss_nil)))))))
      (pss_one (ps_ret (pe_cmpR op_eq (pe_callB (call_repr hgu hu64) (by rfl) t.repr boot_repr (pa_cons (pv 4) pa_nil)) (pv 5) (nomark _))))))))))), ?_⟩
    refine ⟨_, rfl, a, ns, rfl, hS, hl, fun F C H1 nF fd1 sm1 => ?_⟩
    have tb1 : Tb T H1 := fun p hp => by
      obtain ⟨ps, h1, h2⟩ := tb p hp
      exact ⟨ps, sm1 p _ h1, h2⟩
    have ft : ∀ {H : Hp}, Fd F C ns H → Tb T H → F ∉ T ∧ C ∉ T := fun {H} f t => by
      obtain ⟨kv, hF, _⟩ := f.ex
      exact ⟨notT t hF (fun ps z => by cases z), notT t f.cl (fun ps z => by cases z)⟩
    have FT := (ft fd1 tb1).1
    have CT := (ft fd1 tb1).2
    have tbF : ∀ {H H' : Hp}, Tb T H → Evs [F] H H' → Tb T H' := fun t e => t.evs e fun p hp z => FT (by rw [← List.mem_singleton.mp z]; exact hp)
    -- words
    refine ⟨_, rfl, _, rfl, F, C, ns, 6, rfl, by decide, by decide, hl, fd1, fun r2 H2 r20 r21 fd2 ev2 => ?_⟩
    have e2 := ev2.evs fd1 fd2
    refine ⟨_, _, rfl, rfl, F, C, ns, _, rfl, hl, by omega, by omega, fd2, fun ws wl H3 nwl hwl wlen wrd fd3 e3 => ?_⟩
    have w0 : 0 < ws.length := by omega
    have w6 : ws.length ≤ 6 := by omega
    have wlF : wl ≠ F := fun z => by
      obtain ⟨kv, hF, _⟩ := fd2.ex
      rw [z, hF] at nwl
      cases nwl
    -- world
    refine ⟨_, rfl, _, rfl, _, rfl, F, C, ns, 17, rfl, by decide, by decide, hl, fd3, fun r4 H4 r40 r41 fd4 ev4 => ?_⟩
    have e4 := ev4.evs fd3 fd4
    refine ⟨F, C, ns, wl, ws, _, rfl, hl, fd4, e4.ev _ _ hwl (by simpa using wlF), w0, w6, wrd, r40, by omega, fun wa cs H5 wr hcl wd5 ap fd5 e5 => ?_⟩
    have e15 : Evs [F] H1 H5 := ((e2.trans e3).trans e4).trans e5
    have tb5 := tbF tb1 e15
    have hwl5 := (e4.trans e5).ev _ _ hwl (by simpa using wlF)
    have c16 : cs.length ≤ 16 := by omega
    have cw : ∀ n ∈ names cs, Wrd n.2 := fun n hn => wrd _ (br_in wr n hn)
    -- ledger
    obtain ⟨kw, w1, w2, _⟩ := wd5.w
    obtain ⟨k1, p1, p2⟩ := wd5.c1
    have hkeys := pair_keys (P := fun c v => Dp K H5 v (chD c)) p2
    refine ⟨_, rfl, _, rfl, wa.W, _, rfl, dg (k := kCh) w1 w2, wa.A1, k1, rfl, .inl p1, fun nl bn nnl ik => ?_⟩
    have k56 : Evs [] H5 (upd H5 nl (.lst (bn.map V.ref))) := Evs.new nnl
    have hnl : (upd H5 nl (.lst (bn.map V.ref))) nl = some (.lst (bn.map V.ref)) := upd_same
    generalize upd H5 nl (.lst (bn.map V.ref)) = H6 at k56 hnl ⊢
    refine ⟨wa, cs, nl, names cs, bn, rfl, ev0 wd5 k56, by omega, cw, hnl, Nms.evs k56 (keys_nms ik hkeys), cw, fun lp xs H7 hlp dxs e67 => ?_⟩
    have k57 := k56.trans e67
    have fd7 := fd0 fd5 k57
    have wd7 := ev0 wd5 k57
    have tb7 : Tb T H7 := tb5.evs k57 fun p hp => List.not_mem_nil
    have hwl7 := k57.ev _ _ hwl5 List.not_mem_nil
    generalize hL : ledP cs (names cs) = L at dxs
    have lok : ∀ c ∈ L, ChOk c := fun c hc => by
      rw [← hL] at hc
      exact ch_ok wr wrd (by omega) c (led_mem c hc)
    have ll : L.length ≤ 16 := by rw [← hL]; have := led_len (cs := cs) (nms := names cs); omega
    have rp : ∀ {H : Hp} {p : Addr} {ys : List V} {M : List Ch}, H p = some (.tup ys) → DpAll K H ys (M.map chD) → (∀ c ∈ M, ChOk c) → M.length ≤ 16 → _ := fun {H p ys M} h1 h2 h3 h4 => led_rp (K := K) (H := H) (x := .ref p) (L := M) h3 (by omega) (.tup (.inl (.inl h1)) h2)
    have r0 := rp hlp dxs lok ll
    refine ⟨_, rfl, .ref lp, ledD L, rfl, r0.1, r0.2.1, r0.2.2.1, r0.2.2.2.1, r0.2.2.2.2, ?_⟩
    -- names
    refine ⟨_, rfl, _, rfl, _, rfl, F, C, ns, wa, cs, wl, ws, rfl, hl, fd7, ap, wd7, hwl7, w0, w6, wrd, cw, by omega, fun Lf fs bf H8 hLf nf fpos f6 fsh fd8 e78 => ?_⟩
    have tb8 := tbF tb7 e78
    have hlp8 := e78.tp _ _ hlp
    have dx8 := e78.dpAll (tup_chs L) dxs
    refine ⟨_, rfl, _, rfl, 1, rfl, Lf, _, rfl, .inl (.inl hLf), fun p1 np1 => ?_⟩
    rw [cut1]
    have bfl : bf.length = fs.length := nf.len.symm
    refine ⟨Lf, p1, _, _, rfl, rfl, by rw [upd_ne (ne_of_none hLf np1)]; exact hLf, upd_same, Nat.le_of_lt (small1000 (by rw [List.length_map, List.length_map, List.length_take]; omega)), fun p2 np2 => ?_⟩
    have e89 : Evs [] H8 (upd (upd H8 p1 (.lst ((bf.take 1).map V.ref))) p2 (.lst (bf.map V.ref ++ (bf.take 1).map V.ref))) := (Evs.new np1).trans (Evs.new np2)
    have hp9 : (upd (upd H8 p1 (.lst ((bf.take 1).map V.ref))) p2 (.lst (bf.map V.ref ++ (bf.take 1).map V.ref))) p2 = some (.lst ((bf ++ bf.take 1).map V.ref)) := by rw [upd_same, List.map_append]
    generalize upd (upd H8 p1 (.lst ((bf.take 1).map V.ref))) p2 (.lst (bf.map V.ref ++ (bf.take 1).map V.ref)) = H9 at e89 hp9 ⊢
    have fd9 := fd0 fd8 e89
    have tb9 : Tb T H9 := tb8.evs e89 fun p hp => List.not_mem_nil
    have hlp9 := e89.tp _ _ hlp8
    have dx9 := e89.dpAll (tup_chs L) dx8
    have hLf9 := e89.ev _ _ hLf List.not_mem_nil
    have nf9 := Nms.evs e89 nf
    have ng9 : Nms H9 (fs ++ fs.take 1) (bf ++ bf.take 1) := nms_app nf9 (nms_take 1 nf9)
    have gsh : ∀ n ∈ fs ++ fs.take 1, n.2.length ≤ 100 := fun n hn => by
      rcases List.mem_append.mp hn with h | h
      · exact fsh n h
      · exact fsh n (List.mem_of_mem_take h)
    generalize fs ++ fs.take 1 = gs at ng9 gsh
    generalize bf ++ bf.take 1 = bg at ng9 hp9
    obtain ⟨kv9, hF9, _⟩ := fd9.ex
    have p2S : p2 ∉ F :: T := by
      rw [List.mem_cons, not_or]
      exact ⟨ne_of hp9 hF9 (fun z => by cases z), notT tb9 hp9 (fun ps z => by cases z)⟩
    have LfS : Lf ∉ F :: T := by
      rw [List.mem_cons, not_or]
      exact ⟨ne_of hLf9 hF9 (fun z => by cases z), notT tb9 hLf9 (fun ps z => by cases z)⟩
    have eF : ∀ {H H' : Hp}, Evs [F] H H' → Evs (F :: T) H H' := fun e => e.mono fun b hb => by rw [List.mem_singleton.mp hb]; simp
    have eT : ∀ {H H' : Hp}, Evs T H H' → Evs (F :: T) H H' := fun e => e.mono fun b hb => List.mem_cons_of_mem _ hb
    have eN : ∀ {H H' : Hp}, Evs [] H H' → Evs (F :: T) H H' := fun e => e.mono fun b hb => by cases hb
    have fdT : ∀ {H H' : Hp}, Fd F C ns H → Evs T H H' → Fd F C ns H' := fun f e => f.evs e FT CT
    refine ⟨p2, rfl, ⟨_, .inl (.inl hp9)⟩, for_list (a := p2) (xs := bg.map V.ref) (fun i σ Hc => ∃ v7 v8 v9 v10, σ = [some (.ref a), some (.ref F), some (.ref wl), some (.ref wa.W), some (.ref lp), some (.str (ledD L).shown), some (.ref Lf), v7, v8, v9, v10, none] ∧ Fd F C ns Hc ∧ Tb T Hc ∧ Evs (F :: T) H9 Hc)
      ⟨none, none, none, none, rfl, fd9, tb9, Evs.refl _ _⟩ (fun i σ Hc _ pv => ?_) (fun i x σ Hc hx pv => ?_) (fun σ Hc pv => ?_)⟩
    · obtain ⟨_, _, _, _, _, _, _, ec⟩ := pv
      exact .inl (.inl (ec.ev _ _ hp9 p2S))
    · obtain ⟨v7, v8, v9, v10, rfl, fdc, tbc, ec⟩ := pv
      rw [List.getElem?_map] at hx
      obtain ⟨b, hb, rfl⟩ := Option.map_eq_some_iff.mp hx
      obtain ⟨n, hn, an9⟩ := ng9.at hb
      have anc : NmA Hc n b := an9.evs ec
      have nsh := gsh n (List.mem_of_getElem? hn)
      have hlpc := ec.tp _ _ hlp9
      have dxc := ec.dpAll (tup_chs L) dx9
      -- told
      refine ⟨_, rfl, _, rfl, lp, .ref b, xs, L, n, rfl, .inl (.inl hlpc), dxc, by omega, anc.dp, tbc, fun pt ys Ht hpt dyt et tbt => ?_⟩
      have fdt := fdT fdc et
      have hlpt := et.tp _ _ hlpc
      have dxt := et.dpAll (tup_chs L) dxc
      have ant := anc.evs et
      have l1ok : ∀ c ∈ L.filter (fun c => leN c.nm n), ChOk c := fun c hc => lok c (List.mem_filter.mp hc).1
      have l1l : (L.filter fun c => leN c.nm n).length ≤ 16 := Nat.le_trans (List.length_filter_le ..) ll
      generalize hL1 : (L.filter fun c => leN c.nm n) = L1 at dyt l1ok l1l
      have r1 := rp hpt dyt l1ok l1l
      refine ⟨_, rfl, .ref pt, ledD L1, rfl, r1.1, r1.2.1, r1.2.2.1, r1.2.2.2.1, r1.2.2.2.2, ?_⟩
      have xl : xs.length = L.length := by rw [dpAll_len dxs, List.length_map]
      refine ⟨_, rfl, lp, rfl, ⟨_, .inl (.inl hlpt)⟩, fun D1 nD1 => ?_⟩
      refine lc_tup (a := lp) (xs := xs) (fun i Hd => Evs [] Ht Hd ∧ ∃ us : List V, Hd D1 = some (.lst us) ∧ us.length ≤ i ∧ DpAll K Hd us (((L.take i).filter fun c => leN c.nm n).map chD)) ⟨Evs.new nD1, [], upd_same, Nat.le_refl _, .nil⟩ (fun i Hd _ pv => .inl (.inl (pv.1.tp _ _ hlpt))) (fun i x Hd hx pv => ?_) (fun Hd pv => ?_)
      · obtain ⟨ed, us, hD, hul, dus⟩ := pv
        refine ⟨wipe_set _ 11 _, ?_⟩
        have hix : i < xs.length := (List.getElem?_eq_some_iff.mp hx).1
        obtain ⟨d, hd, dx⟩ := dpAll_at (ed.dpAll (tup_chs L) dxt) hx
        rw [List.getElem?_map] at hd
        obtain ⟨ch, hch, rfl⟩ := Option.map_eq_some_iff.mp hd
        obtain ⟨qv, v0, v2, v3, rfl, sq, d0, _, _⟩ := ch_parts dx
        have chw := (lok ch (List.mem_of_getElem? hch)).nm.wrd.most
        refine ⟨_, rfl, qv, _, 0, _, rfl, rfl, sq, at0, _, rfl, v0, .ref b, ch.nm, n, rfl, d0, (ant.evs ed).dp, by omega, nsh, fun H' e' => ⟨_, rfl, ?_⟩⟩
        have hD' := e'.ev _ _ hD List.not_mem_nil
        have dus' := e'.dpAll (tup_chs _) dus
        have edd := ed.trans e'
        cases hle : leN ch.nm n with
        | true =>
          refine iteT ⟨_, rfl, us, hD', small1000 (by omega), edd.put nD1, us ++ [V.ref qv], upd_same, by rw [List.length_append, List.length_singleton]; omega, ?_⟩
          have own : Evs [D1] H' (upd H' D1 (.lst (us ++ [V.ref qv]))) := Evs.own (by simp) hD' (fun xs z => by cases z) (fun ob y z => by cases z)
          rw [take_snoc hch, List.filter_append, List.map_append]
          have : ([ch].filter fun c => leN c.nm n).map chD = [chD ch] := by simp [hle]
          rw [this]
          exact dpAll_snoc (own.dpAll (tup_chs _) dus') (own.dp (tup_ch ch) (e'.dp (tup_ch ch) dx))
        | false =>
          refine iteF ⟨edd, us, hD', by omega, ?_⟩
          rw [take_snoc hch, List.filter_append, List.map_append]
          have : ([ch].filter fun c => leN c.nm n).map chD = [] := by simp [hle]
          rw [this, List.append_nil]
          exact dus'
      obtain ⟨ed, us, hD, hul, dus⟩ := pv
      rw [xl, List.take_length, hL1] at dus
      refine ⟨D1, us, rfl, .inl ⟨.inl (.inl hD), fun pu npu => ?_⟩⟩
      have kdu : Evs [] Hd (upd Hd pu (.tup us)) := Evs.new npu
      have hpu : (upd Hd pu (.tup us)) pu = some (.tup us) := upd_same
      generalize upd Hd pu (.tup us) = Hu at kdu hpu ⊢
      have r2 := rp hpu (kdu.dpAll (tup_chs _) dus) l1ok l1l
      refine ⟨.ref pu, ledD L1, rfl, r2.1, r2.2.1, r2.2.2.1, r2.2.2.2.1, r2.2.2.2.2, rfl, _, rfl, iteNS rfl ?_⟩
      have etu : Evs [] Ht Hu := ed.trans kdu
      have ecu : Evs (F :: T) Hc Hu := (eT et).trans (eN etu)
      have fdu := fd0 fdt etu
      have tbu : Tb T Hu := tbt.evs etu fun p hp => List.not_mem_nil
      have hLfu := (ec.trans ecu).ev _ _ hLf9 LfS
      -- other
      refine ⟨_, rfl, _, rfl, _, rfl, Lf, _, rfl, .inl (.inl (.inl hLfu)), F, C, ns, _, rfl, by rw [List.length_map]; omega, by rw [List.length_map]; omega, hl, fdu, fun ro Ho ro0 ro1 fdo evo => ?_⟩
      have euo := evo.evs fdu fdo
      have hLfo := euo.ev _ _ hLfu (by
        rw [List.mem_singleton]
        exact fun z => LfS (by rw [z]; simp))
      obtain ⟨v, hv, hmem, hat⟩ := val_at (xs := bf.map V.ref) ro0 ro1
      rw [List.getElem?_map] at hat
      obtain ⟨bo, hbo, rfl⟩ := Option.map_eq_some_iff.mp hat
      obtain ⟨no, hno, ano9⟩ := nf9.at hbo
      have osh := fsh no (List.mem_of_getElem? hno)
      refine ⟨Lf, _, ro, _, rfl, rfl, .inl (.inl hLfo), hv, ?_⟩
      have tbo := tbF tbu euo
      have eto : Evs (F :: T) Ht Ho := (eN etu).trans (eF euo)
      have eco : Evs (F :: T) H9 Ho := (ec.trans (eT et)).trans eto
      have ano : NmA Ho no bo := ano9.evs eco
      have anO : NmA Ho n b := ant.evs eto
      have hlpo := eto.tp _ _ hlpt
      have dxo := eto.dpAll (tup_chs L) dxt
      have hpto := eto.tp _ _ hpt
      have dyo := eto.dpAll (tup_chs L1) dyt
      -- due
      refine ⟨_, rfl, lp, rfl, ⟨_, .inl (.inl hlpo)⟩, fun D2 nD2 => ?_⟩
      refine lc_tup (a := lp) (xs := xs) (fun i Hd => Evs [] Ho Hd ∧ ∃ us : List V, Hd D2 = some (.lst us) ∧ us.length ≤ i ∧ DpAll K Hd us (((L.take i).filter fun c => leN c.nm n && leN c.nm no).map chD)) ⟨Evs.new nD2, [], upd_same, Nat.le_refl _, .nil⟩ (fun i Hd _ pv => .inl (.inl (pv.1.tp _ _ hlpo))) (fun i x Hd hx pv => ?_) (fun Hd2 pv => ?_)
      · obtain ⟨ed, us, hD, hul, dus⟩ := pv
        refine ⟨wipe_set _ 11 _, ?_⟩
        have hix : i < xs.length := (List.getElem?_eq_some_iff.mp hx).1
        obtain ⟨d, hd, dx⟩ := dpAll_at (ed.dpAll (tup_chs L) dxo) hx
        rw [List.getElem?_map] at hd
        obtain ⟨ch, hch, rfl⟩ := Option.map_eq_some_iff.mp hd
        obtain ⟨qv, v0, v2, v3, rfl, sq, d0, _, _⟩ := ch_parts dx
        have chw := (lok ch (List.mem_of_getElem? hch)).nm.wrd.most
        refine ⟨_, rfl, qv, _, 0, _, rfl, rfl, sq, at0, _, rfl, v0, .ref b, ch.nm, n, rfl, d0, (anO.evs ed).dp, by omega, nsh, fun H' e' => ⟨_, rfl, ?_⟩⟩
        have hD' := e'.ev _ _ hD List.not_mem_nil
        have dus' := e'.dpAll (tup_chs _) dus
        have edd := ed.trans e'
        have nope : leN ch.nm n = false ∨ leN ch.nm no = false → ∀ H'', Evs [] H' H'' → Evs [] Ho H'' ∧ ∃ us : List V, H'' D2 = some (.lst us) ∧ us.length ≤ i + 1 ∧ DpAll K H'' us (((L.take (i + 1)).filter fun c => leN c.nm n && leN c.nm no).map chD) := fun hno H'' e'' => by
          refine ⟨edd.trans e'', us, e''.ev _ _ hD' List.not_mem_nil, by omega, ?_⟩
          rw [take_snoc hch, List.filter_append, List.map_append]
          have : ([ch].filter fun c => leN c.nm n && leN c.nm no).map chD = [] := by rcases hno with h | h <;> simp [h]
          rw [this, List.append_nil]
          exact e''.dpAll (tup_chs _) dus'
        cases hle : leN ch.nm n with
        | true =>
          refine iteT ?_
          refine ⟨_, rfl, qv, _, 0, _, rfl, rfl, e'.sqT sq, at0, _, rfl, v0, .ref bo, ch.nm, no, rfl, e'.dp (tup_nm _) d0, ((ano.evs ed).evs e').dp, by omega, osh, fun H'' e'' => ⟨_, rfl, ?_⟩⟩
          have hD'' := e''.ev _ _ hD' List.not_mem_nil
          cases hle2 : leN ch.nm no with
          | true =>
            refine iteT ⟨_, rfl, us, hD'', small1000 (by omega), (edd.trans e'').put nD2, us ++ [V.ref qv], upd_same, by rw [List.length_append, List.length_singleton]; omega, ?_⟩
            have own : Evs [D2] H'' (upd H'' D2 (.lst (us ++ [V.ref qv]))) := Evs.own (by simp) hD'' (fun xs z => by cases z) (fun ob y z => by cases z)
            rw [take_snoc hch, List.filter_append, List.map_append]
            have : ([ch].filter fun c => leN c.nm n && leN c.nm no).map chD = [chD ch] := by simp [hle, hle2]
            rw [this]
            exact dpAll_snoc (own.dpAll (tup_chs _) (e''.dpAll (tup_chs _) dus')) (own.dp (tup_ch ch) (e''.dp (tup_ch ch) (e'.dp (tup_ch ch) dx)))
          | false => exact iteF (nope (.inr hle2) _ e'')
        | false => exact iteF (iteF (nope (.inl hle) _ (Evs.refl _ _)))
      obtain ⟨ed2, us2, hD2, hul2, dus2⟩ := pv
      rw [xl, List.take_length] at dus2
      have fdd := fd0 fdo ed2
      have tbd : Tb T Hd2 := tbo.evs ed2 fun p hp => List.not_mem_nil
      -- asked of what was told
      refine ⟨_, rfl, _, rfl, pt, .ref bo, ys, L1, no, rfl, .inl (.inl (ed2.tp _ _ hpto)), ed2.dpAll (tup_chs L1) dyo, by omega, (ano.evs ed2).dp, tbd, fun pq yq Hq hpq dyq eq tbq => ?_⟩
      have l2e : (L1.filter fun c => leN c.nm no) = L.filter fun c => leN c.nm n && leN c.nm no := by
        rw [← hL1, List.filter_filter]
        refine List.filter_congr fun c _ => ?_
        rw [Bool.and_comm]
      rw [l2e] at dyq
      have l2ok : ∀ c ∈ L.filter (fun c => leN c.nm n && leN c.nm no), ChOk c := fun c hc => lok c (List.mem_filter.mp hc).1
      have l2l : (L.filter fun c => leN c.nm n && leN c.nm no).length ≤ 16 := Nat.le_trans (List.length_filter_le ..) ll
      have r3 := rp hpq dyq l2ok l2l
      have nDT : D2 ∉ T := notT tbd hD2 (fun ps z => by cases z)
      have hDq := eq.ev _ _ hD2 nDT
      refine ⟨.ref pq, _, rfl, r3.1, r3.2.1, r3.2.2.1, r3.2.2.2.1, r3.2.2.2.2, _, rfl, D2, us2, rfl, .inl ⟨.inl (.inl hDq), fun pr npr => ?_⟩⟩
      have kqr : Evs [] Hq (upd Hq pr (.tup us2)) := Evs.new npr
      have hpr : (upd Hq pr (.tup us2)) pr = some (.tup us2) := upd_same
      generalize upd Hq pr (.tup us2) = Hr at kqr hpr ⊢
      have r4 := rp hpr (kqr.dpAll (tup_chs _) (eq.dpAll (tup_chs _) dus2)) l2ok l2l
      refine ⟨.ref pr, _, rfl, r4.1, r4.2.1, r4.2.2.1, r4.2.2.2.1, r4.2.2.2.2, rfl, _, rfl, iteNS rfl ?_⟩
      have tbr : Tb T Hr := tbq.evs kqr fun p hp => List.not_mem_nil
      have e2r : Evs T Hd2 Hr := eq.trans (kqr.mono fun b hb => by cases hb)
      have fdr := fdT fdd e2r
      have eor : Evs (F :: T) Ho Hr := (eN ed2).trans (eT e2r)
      -- and by the same name
      refine ⟨_, rfl, _, rfl, pt, .ref b, ys, L1, n, rfl, .inl (.inl (eor.tp _ _ hpto)), eor.dpAll (tup_chs L1) dyo, by omega, (anO.evs eor).dp, tbr, fun px yx Hx hpx dyx ex tbx => ?_⟩
      have l3e : (L1.filter fun c => leN c.nm n) = L1 := by
        rw [← hL1, List.filter_filter]
        refine List.filter_congr fun c _ => ?_
        rw [Bool.and_self]
      rw [l3e] at dyx
      have r5 := rp hpx dyx l1ok l1l
      have hptx := ex.tp _ _ (eor.tp _ _ hpto)
      have dyxx := ex.dpAll (tup_chs L1) (eor.dpAll (tup_chs L1) dyo)
      have r6 := rp hptx dyxx l1ok l1l
      refine ⟨.ref px, _, rfl, r5.1, r5.2.1, r5.2.2.1, r5.2.2.2.1, r5.2.2.2.2, _, rfl, .ref pt, _, rfl, r6.1, r6.2.1, r6.2.2.1, r6.2.2.2.1, r6.2.2.2.2, rfl, _, rfl, iteNS rfl ?_⟩
      exact ⟨_, _, _, _, rfl, fdT fdr ex, tbx, (eco.trans eor).trans (eT ex)⟩
    · obtain ⟨v7, v8, v9, v10, rfl, fdc, tbc, ec⟩ := pv
      have r9 := rp (ec.tp _ _ hlp9) (ec.dpAll (tup_chs L) dx9) lok ll
      refine ⟨_, rfl, .ref lp, ledD L, rfl, r9.1, r9.2.1, r9.2.2.1, r9.2.2.2.1, r9.2.2.2.2, _, rfl, rfl, ?_⟩
      show Q (.bl (decide (V.str (ledD L).shown = V.str (ledD L).shown))) Hc
      rw [decide_eq_true rfl]
      exact q Hc
end
end K06

set_option maxHeartbeats 4000000
namespace K06
open PySem PySem.Spec PyProof.Rows L2 Mw
theorem _root_.Mw.tabIn_of {K : PySem.W.Frag} {x : Str} {f c Q : Addr} {oc e : Value} {od dd : Option Addr} {fd : FuncData} {sl sl2 : Array (Option Value)} {vs : Array Value} (a : PySem.W.nsIn K mainGlobals x = some (some (.ref f)))
    (l : K.lookup f = some ⟨oc, od, .func fd, sl⟩) (hc : fd.code = .ref c) (lc : K.lookup c = some ⟨e, dd, .fields vs, sl2⟩) (hv : vs[11]? = some (.ref Q)) : PySem.W.tabIn K x = some (c, Q) := by
  unfold PySem.W.tabIn
  rw [a]
  simp only [l, hc, lc, hv]
theorem all_mk {l : PySem.W.OpenLaw} {w : World} {K : PySem.W.Frag} {h : Heap} {mg : Str → Option Value} {fa f1 f2 f3 f4 f5 f6 f7 f8 f9 f10 f11 c1 c2 c3 c4 c5 c6 c7 c8 c9 c10 c11 P1 : Addr}
    {od1 an1 od2 an2 od3 an3 od4 an4 od5 an5 od6 an6 od7 an7 od8 an8 od9 an9 od10 an10 od11 an11 : Option Addr} {sl1 sl2 sl3 sl4 sl5 sl6 sl7 sl8 sl9 sl10 sl11 : Array (Option Value)} {oc1 kV1 dc1 pm1 ct1 oc2 kV2 dc2 pm2 ct2 oc3 kV3 dc3 pm3 ct3 oc4 kV4 dc4 pm4 ct4 oc5 kV5 dc5 pm5 ct5 oc6 kV6 dc6 pm6 ct6 oc7 kV7 dc7 pm7 ct7 oc8 kV8 dc8 pm8 ct8 oc9 kV9 dc9 pm9 ct9 oc10 kV10 dc10 pm10 ct10 oc11 kV11 dc11 pm11 ct11 : Value} {ue1 : Value} {ud1 : Option Addr} {us1 : Array Value} {ul1 : Array (Option Value)}
    (X : K.In h) (G : h.Ns mainGlobals mg) (hfa : mg "law" = some (.ref fa)) (tT1 : TabOf K h "upto")
    (a1 : PySem.W.nsIn K mainGlobals "upto" = some (some (.ref f1))) (l1 : K.lookup f1 = some ⟨oc1, od1, .func (PySem.W.fnOf "upto" "upto" (defArgs sUpto) (defBody sUpto) (defScope sUpto) .none kV1 dc1 pm1 an1 (.ref c1) ct1), sl1⟩) (d1 : PySem.W.codeIn K (.ref c1) "upto" = true) (k1 : PySem.W.keepIn K (.ref f1) = true)
    (a2 : PySem.W.nsIn K mainGlobals "_law_feed" = some (some (.ref f2))) (l2 : K.lookup f2 = some ⟨oc2, od2, .func (PySem.W.fnOf "_law_feed" "_law_feed" (defArgs sFeed) (defBody sFeed) (defScope sFeed) .none kV2 dc2 pm2 an2 (.ref c2) ct2), sl2⟩) (d2 : PySem.W.codeIn K (.ref c2) "_law_feed" = true) (k2 : PySem.W.keepIn K (.ref f2) = true)
    (a3 : PySem.W.nsIn K mainGlobals "_law_draw" = some (some (.ref f3))) (l3 : K.lookup f3 = some ⟨oc3, od3, .func (PySem.W.fnOf "_law_draw" "_law_draw" (defArgs sDraw) (defBody sDraw) (defScope sDraw) .none kV3 dc3 pm3 an3 (.ref c3) ct3), sl3⟩) (d3 : PySem.W.codeIn K (.ref c3) "_law_draw" = true) (k3 : PySem.W.keepIn K (.ref f3) = true)
    (a4 : PySem.W.nsIn K mainGlobals "_law_words" = some (some (.ref f4))) (l4 : K.lookup f4 = some ⟨oc4, od4, .func (PySem.W.fnOf "_law_words" "_law_words" (defArgs sWords) (defBody sWords) (defScope sWords) .none kV4 dc4 pm4 an4 (.ref c4) ct4), sl4⟩) (d4 : PySem.W.codeIn K (.ref c4) "_law_words" = true) (k4 : PySem.W.keepIn K (.ref f4) = true)
    (a5 : PySem.W.nsIn K mainGlobals "_law_deed" = some (some (.ref f5))) (l5 : K.lookup f5 = some ⟨oc5, od5, .func (PySem.W.fnOf "_law_deed" "_law_deed" (defArgs sDeed) (defBody sDeed) (defScope sDeed) .none kV5 dc5 pm5 an5 (.ref c5) ct5), sl5⟩) (d5 : PySem.W.codeIn K (.ref c5) "_law_deed" = true) (k5 : PySem.W.keepIn K (.ref f5) = true)
    (a6 : PySem.W.nsIn K mainGlobals "_law_step" = some (some (.ref f6))) (l6 : K.lookup f6 = some ⟨oc6, od6, .func (PySem.W.fnOf "_law_step" "_law_step" (defArgs sStep) (defBody sStep) (defScope sStep) .none kV6 dc6 pm6 an6 (.ref c6) ct6), sl6⟩) (d6 : PySem.W.codeIn K (.ref c6) "_law_step" = true) (k6 : PySem.W.keepIn K (.ref f6) = true)
    (a7 : PySem.W.nsIn K mainGlobals "_law_world" = some (some (.ref f7))) (l7 : K.lookup f7 = some ⟨oc7, od7, .func (PySem.W.fnOf "_law_world" "_law_world" (defArgs sWorld) (defBody sWorld) (defScope sWorld) .none kV7 dc7 pm7 an7 (.ref c7) ct7), sl7⟩) (d7 : PySem.W.codeIn K (.ref c7) "_law_world" = true) (k7 : PySem.W.keepIn K (.ref f7) = true)
    (a8 : PySem.W.nsIn K mainGlobals "_law_ledger" = some (some (.ref f8))) (l8 : K.lookup f8 = some ⟨oc8, od8, .func (PySem.W.fnOf "_law_ledger" "_law_ledger" (defArgs sLedger) (defBody sLedger) (defScope sLedger) .none kV8 dc8 pm8 an8 (.ref c8) ct8), sl8⟩) (d8 : PySem.W.codeIn K (.ref c8) "_law_ledger" = true) (k8 : PySem.W.keepIn K (.ref f8) = true)
    (a9 : PySem.W.nsIn K mainGlobals "_law_is_up" = some (some (.ref f9))) (l9 : K.lookup f9 = some ⟨oc9, od9, .func (PySem.W.fnOf "_law_is_up" "_law_is_up" (defArgs sUp) (defBody sUp) (defScope sUp) .none kV9 dc9 pm9 an9 (.ref c9) ct9), sl9⟩) (d9 : PySem.W.codeIn K (.ref c9) "_law_is_up" = true) (k9 : PySem.W.keepIn K (.ref f9) = true)
    (a10 : PySem.W.nsIn K mainGlobals "_law_names" = some (some (.ref f10))) (l10 : K.lookup f10 = some ⟨oc10, od10, .func (PySem.W.fnOf "_law_names" "_law_names" (defArgs sNames) (defBody sNames) (defScope sNames) .none kV10 dc10 pm10 an10 (.ref c10) ct10), sl10⟩) (d10 : PySem.W.codeIn K (.ref c10) "_law_names" = true) (k10 : PySem.W.keepIn K (.ref f10) = true)
    (a11 : PySem.W.nsIn K mainGlobals "law" = some (some (.ref f11))) (l11 : K.lookup f11 = some ⟨oc11, od11, .func (PySem.W.fnOf "law" "law" (defArgs sLaw) (defBody sLaw) (defScope sLaw) .none kV11 dc11 pm11 an11 (.ref c11) ct11), sl11⟩) (d11 : PySem.W.codeIn K (.ref c11) "law" = true) (k11 : PySem.W.keepIn K (.ref f11) = true)
    (z0 : PySem.W.nsIn K mainGlobals "isinstance" = some none)
    (z1 : PySem.W.nsIn K mainGlobals "int" = some none)
    (z2 : PySem.W.nsIn K mainGlobals "bool" = some none)
    (z3 : PySem.W.nsIn K mainGlobals "str" = some none)
    (z4 : PySem.W.nsIn K mainGlobals "tuple" = some none)
    (z5 : PySem.W.nsIn K mainGlobals "len" = some none)
    (z6 : PySem.W.nsIn K mainGlobals "all" = some none)
    (z7 : PySem.W.nsIn K mainGlobals "any" = some none)
    (z8 : PySem.W.nsIn K mainGlobals "range" = some none)
    (z9 : PySem.W.nsIn K mainGlobals "ord" = some none)
    (z10 : PySem.W.nsIn K mainGlobals "repr" = some none)
    (z11 : PySem.W.nsIn K mainGlobals "list" = some none)
    (z12 : PySem.W.nsIn K mainGlobals "max" = some none)
    (z13 : PySem.W.nsIn K mainGlobals "sorted" = some none)
    (z14 : PySem.W.nsIn K mainGlobals "zip" = some none)
    (u1 : K.lookup c1 = some ⟨ue1, ud1, .fields us1, ul1⟩) (t1 : us1[11]? = some (.ref P1)) (n1 : K.lookup P1 = none) :
    ∃ (fd : FuncData) (cs : List (Addr × Addr)) (sp : Sp), (∀ p ∈ cs, h.get? p.2 = some tb0 ∧ K.lookup p.2 = none ∧ PySem.W.CodeHd h p.1 p.2) ∧
      (∀ (s : Shared) (u : Value), BindsTo s fd ⟨[u], []⟩ [("_law_script", u)]) ∧
      (∀ (H : Hp) (a : Addr) (ns : List Int), ns.length ≤ 63 → (∀ z ∈ ns, Builtin.Int.intBits z ≤ 1048576) → (∀ p ∈ cs, H p.2 = some (.tbl #[])) → SqL K H a (ns.map V.int) → sp [.ref a] H (fun v _ => v = .bl true) fun _ _ _ => False) ∧
      ∀ base : Heap, K.In base → base.Ns mainGlobals mg → (∀ p ∈ cs, GxR.TabB base mg p.1 p.2) → FnG l.prog w K mg base 5 fa fd ["_law_script"] sp := by
  have e := hfa.symm.trans (PySem.W.mg_of X G a11)
  cases e
  have DUpto := Def.mk' (st := sUpto) l1 d1 k1
  have kpUpto := k1
  have bdUpto := DUpto.binds (ps := ["ledger", "name"]) fun _ _ _ _ _ us hl => match us, hl with | [_, _], _ => rfl
  have glUpto := PySem.W.mg_of X G a1
  have DFeed := Def.mk' (st := sFeed) l2 d2 k2
  have kpFeed := k2
  have bdFeed := DFeed.binds (ps := ["_law_script"]) fun _ _ _ _ _ us hl => match us, hl with | [_], _ => rfl
  have glFeed := PySem.W.mg_of X G a2
  have DDraw := Def.mk' (st := sDraw) l3 d3 k3
  have kpDraw := k3
  have bdDraw := DDraw.binds (ps := ["_law_feed_here", "_law_many"]) fun _ _ _ _ _ us hl => match us, hl with | [_, _], _ => rfl
  have glDraw := PySem.W.mg_of X G a3
  have DWords := Def.mk' (st := sWords) l4 d4 k4
  have kpWords := k4
  have bdWords := DWords.binds (ps := ["_law_feed_here", "_law_many"]) fun _ _ _ _ _ us hl => match us, hl with | [_, _], _ => rfl
  have glWords := PySem.W.mg_of X G a4
  have DDeed := Def.mk' (st := sDeed) l5 d5 k5
  have kpDeed := k5
  have bdDeed := DDeed.binds (ps := ["_law_feed_here", "_law_world_here", "_law_base", "_law_floor"]) fun _ _ _ _ _ us hl => match us, hl with | [_, _, _, _], _ => rfl
  have glDeed := PySem.W.mg_of X G a5
  have DStep := Def.mk' (st := sStep) l6 d6 k6
  have kpStep := k6
  have bdStep := DStep.binds (ps := ["_law_feed_here", "_law_world_here", "_law_words_here"]) fun _ _ _ _ _ us hl => match us, hl with | [_, _, _], _ => rfl
  have glStep := PySem.W.mg_of X G a6
  have DWorld := Def.mk' (st := sWorld) l7 d7 k7
  have kpWorld := k7
  have bdWorld := DWorld.binds (ps := ["_law_feed_here", "_law_words_here", "_law_many"]) fun _ _ _ _ _ us hl => match us, hl with | [_, _, _], _ => rfl
  have glWorld := PySem.W.mg_of X G a7
  have DLedger := Def.mk' (st := sLedger) l8 d8 k8
  have kpLedger := k8
  have bdLedger := DLedger.binds (ps := ["_law_world_here", "_law_names_here"]) fun _ _ _ _ _ us hl => match us, hl with | [_, _], _ => rfl
  have glLedger := PySem.W.mg_of X G a8
  have DUp := Def.mk' (st := sUp) l9 d9 k9
  have kpUp := k9
  have bdUp := DUp.binds (ps := ["_law_name", "_law_other"]) fun _ _ _ _ _ us hl => match us, hl with | [_, _], _ => rfl
  have glUp := PySem.W.mg_of X G a9
  have DNames := Def.mk' (st := sNames) l10 d10 k10
  have kpNames := k10
  have bdNames := DNames.binds (ps := ["_law_feed_here", "_law_world_here", "_law_words_here"]) fun _ _ _ _ _ us hl => match us, hl with | [_, _, _], _ => rfl
  have glNames := PySem.W.mg_of X G a10
  have DLaw := Def.mk' (st := sLaw) l11 d11 k11
  have kpLaw := k11
  have glLaw := PySem.W.mg_of X G a11
  have t : Txt mg := { isi := PySem.W.mg_none_of X G z0, int := PySem.W.mg_none_of X G z1, bool := PySem.W.mg_none_of X G z2, str := PySem.W.mg_none_of X G z3, tup := PySem.W.mg_none_of X G z4, len := PySem.W.mg_none_of X G z5, all := PySem.W.mg_none_of X G z6, any := PySem.W.mg_none_of X G z7, range := PySem.W.mg_none_of X G z8, ord := PySem.W.mg_none_of X G z9, repr := PySem.W.mg_none_of X G z10, lst := PySem.W.mg_none_of X G z11, max := PySem.W.mg_none_of X G z12, sorted := PySem.W.mg_none_of X G z13, zip := PySem.W.mg_none_of X G z14 }
  obtain ⟨cw1, hw1⟩ := tT1 c1 P1 (Mw.tabIn_of a1 l1 rfl u1 t1)
  refine ⟨PySem.W.fnOf "law" "law" (defArgs sLaw) (defBody sLaw) (defScope sLaw) .none kV11 dc11 pm11 an11 (.ref c11) ct11, [(c1, P1)], spLaw K [P1], fun p hp => ?_, fun s v => .of_eq rfl, fun H a ns h1 _ h2 h3 => ⟨a, ns, rfl, h3, h1, fun p hp => ?_, fun _ => rfl⟩, fun base kb nb tb => ?_⟩
  · simp only [List.mem_cons, List.not_mem_nil, or_false] at hp
    rcases hp with rfl
    · exact ⟨hw1, n1, cw1⟩
  · simp only [List.mem_cons, List.not_mem_nil, or_false] at hp
    have e0 := hp
    · rw [e0]; exact ⟨#[], h2 (c1, P1) (by simp), trivial⟩
  · have GD : FnOk l.prog w K mg base CX0 1 f3 _ ["_law_feed_here", "_law_many"] spDraw := ok_draw DDraw t
    have GF : FnOk l.prog w K mg base CX0 1 f2 _ ["_law_script"] (spFeed K) := ok_feed DFeed t.lst
    have GW := ok_words (base := base) (P := l.prog) (w := w) DWords t kpDraw bdDraw glDraw GD
    have GE := ok_deed (base := base) (P := l.prog) (w := w) DDeed t kpDraw bdDraw glDraw GD
    have GS := ok_step (base := base) (P := l.prog) (w := w) DStep t kpDraw bdDraw glDraw GD kpDeed bdDeed glDeed GE
    have GWo := ok_world (base := base) (P := l.prog) (w := w) DWorld t kpStep bdStep glStep GS
    have GLe : FnOk l.prog w K mg base CX0 1 f8 _ ["_law_world_here", "_law_names_here"] (spLedger K) := ok_ledger DLedger t
    have GNa := ok_names (base := base) (P := l.prog) (w := w) DNames t kpDraw bdDraw glDraw GD
    have GUp : FnOk l.prog w K mg base CX0 1 f9 _ ["_law_name", "_law_other"] (spUp K) := ok_up DUp t
    have GUt : FnOk l.prog w K mg base CX0 2 f1 _ ["ledger", "name"] (spUpto K [P1]) := ok_upto DUpto t (tb (c1, P1) (by simp)) (by simp)
    exact ok_law DLaw t kpDraw bdDraw glDraw GD kpFeed bdFeed glFeed GF kpWords bdWords glWords GW kpWorld bdWorld glWorld GWo kpLedger bdLedger glLedger GLe kpNames bdNames glNames GNa kpUp bdUp glUp GUp kpUpto bdUpto glUpto GUt
end K06
open PySem PySem.W PyProof.Rows
set_option maxRecDepth 100000 in
set_option maxHeartbeats 0 in
theorem PySem.Challenge.cw_marginwords_k06_elder_ledgers_holds : PySem.Challenge.rw_marginwords_k06_elder_ledgers.Holds := by
  w_on; o_law; k_head; (case hw => w_witness2)
  k_fill
  refine Mw.law_end (l := PySem.Challenge.rw_marginwords_k06_elder_ledgers) (n := 63) (k := 5) (x := "_law_script") rfl (by decide) rfl ⟨rfl, by decide, by decide⟩ (fun w h Y => PySem.W.kIn_of Y) ?F
  case F =>
    intro w mg fa h KX G hmg htab
    refine' K06.all_mk KX G hmg (htab "upto" ?y1) ?a1 ?l1 ?d1 ?k1 ?a2 ?l2 ?d2 ?k2 ?a3 ?l3 ?d3 ?k3 ?a4 ?l4 ?d4 ?k4 ?a5 ?l5 ?d5 ?k5 ?a6 ?l6 ?d6 ?k6 ?a7 ?l7 ?d7 ?k7 ?a8 ?l8 ?d8 ?k8 ?a9 ?l9 ?d9 ?k9 ?a10 ?l10 ?d10 ?k10 ?a11 ?l11 ?d11 ?k11 ?z0 ?z1 ?z2 ?z3 ?z4 ?z5 ?z6 ?z7 ?z8 ?z9 ?z10 ?z11 ?z12 ?z13 ?z14 ?u1 ?t1 ?n1
    (case y1 => kernel_rfl)
    (case a1 => k_is); (case l1 => k_is); (case d1 => k_is); (case k1 => k_is); (case a2 => k_is); (case l2 => k_is)
    (case d2 => k_is); (case k2 => k_is); (case a3 => k_is); (case l3 => k_is); (case d3 => k_is); (case k3 => k_is)
    (case a4 => k_is); (case l4 => k_is); (case d4 => k_is); (case k4 => k_is); (case a5 => k_is); (case l5 => k_is)
    (case d5 => k_is); (case k5 => k_is); (case a6 => k_is); (case l6 => k_is); (case d6 => k_is); (case k6 => k_is)
    (case a7 => k_is); (case l7 => k_is); (case d7 => k_is); (case k7 => k_is); (case a8 => k_is); (case l8 => k_is)
    (case d8 => k_is); (case k8 => k_is); (case a9 => k_is); (case l9 => k_is); (case d9 => k_is); (case k9 => k_is)
    (case a10 => k_is); (case l10 => k_is); (case d10 => k_is); (case k10 => k_is); (case a11 => k_is); (case l11 => k_is)
    (case d11 => k_is); (case k11 => k_is); (case z0 => k_is); (case z1 => k_is); (case z2 => k_is); (case z3 => k_is)
    (case z4 => k_is); (case z5 => k_is); (case z6 => k_is); (case z7 => k_is); (case z8 => k_is); (case z9 => k_is)
    (case z10 => k_is); (case z11 => k_is); (case z12 => k_is); (case z13 => k_is); (case z14 => k_is); (case u1 => k_is)
    (case t1 => rfl); (case n1 => kernel_rfl)

