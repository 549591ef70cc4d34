import PyProof.Rows.All
import Wide.All
import OpenK.AllK
import Wide.FinOn
import HandS.ForMost
import HandS.AnyAll
import HandS.IsInst
import HandS.Deep
import HandS.TupAny
import HandS.Flow
import HandS.EndTab
import HandS.Defaults
import PyProof.ReprReads
import PyProof.ReprRoads
import PyProof.GenCompD
import HandS.GenList
import HandS.Style
import PyProof.ReprLen
import PyProof.Rows.RegStrFacts
import HandS.Wide
import PySem.Challenge.RW_marginwords_k01_kinds
set_option Elab.async false
set_option linter.all false
set_option maxRecDepth 100000
set_option maxHeartbeats 2000000
namespace Mw
open PySem PySem.Spec PyProof.Rows L2
/-! ### a def of the top: its function object, its code object -/
structure Def (K : PySem.W.Frag) (x : Str) (st : Stmt) (f c : Addr) (fd : FuncData) : Prop where
  ex : ∃ (oc : Value) (od : Option Addr) (kV doc pm : Value) (an : Option Addr) (ct : Value) (osl : Array (Option Value)),
    fd = PySem.W.fnOf x x (defArgs st) (defBody st) (defScope st) .none kV doc pm an (.ref c) ct ∧
      K.lookup f = some ⟨oc, od, .func fd, osl⟩ ∧ PySem.W.codeIn K (.ref c) x = true
  kp : PySem.W.keepIn K (.ref f) = true
theorem Def.mk' {K : PySem.W.Frag} {x : Str} {st : Stmt} {f c : Addr} {oc : Value} {od an : Option Addr} {osl : Array (Option Value)} {kV doc pm ct : Value}
    (l : K.lookup f = some ⟨oc, od, .func (PySem.W.fnOf x x (defArgs st) (defBody st) (defScope st) .none kV doc pm an (.ref c) ct), osl⟩)
    (cd : PySem.W.codeIn K (.ref c) x = true) (kp : PySem.W.keepIn K (.ref f) = true) :
    Def K x st f c (PySem.W.fnOf x x (defArgs st) (defBody st) (defScope st) .none kV doc pm an (.ref c) ct) :=
  ⟨⟨oc, od, kV, doc, pm, an, ct, osl, rfl, l, cd⟩, kp⟩
section
variable {P : Program} {w : World} {K : PySem.W.Frag} {mg : Str → Option Value} {base : Heap} {x : Str} {st : Stmt} {f c : Addr} {fd : FuncData} {N ps : List Str} {k : Nat} {sp : Sp}
/-- the context in which a def's body runs -/
abbrev Bx (P : Program) (w : World) (K : PySem.W.Frag) (mg : Str → Option Value) (base : Heap) (N : List Str) (x : Str) (st : Stmt) (f c : Addr) (A : Around) (outer : List Env) (s : Shared) (H : Hp) (E : XK) : Cx :=
  (cxOf CX0 P w K mg base N x (defScope st) f (.ref c) A outer s H E).nox
theorem Def.ok (D : Def K x st f c fd) (S : FnScope N ps (defScope st)) (len : ∀ vs H Q E, sp vs H Q E → vs.length = ps.length)
    (body : ∀ (A : Around) (outer : List Env) (s : Shared) (H : Hp) (vs : List V) (Q : VK) (E : XK),
      Room k (A.deeper (envOfC x (defScope st) s.heap.objs.size f (.ref c))) → sp vs H Q E →
      ∃ t, PSs (Bx P w K mg base N x st f c A outer s H E) (defBody st) t ∧ t { nx := fun _ H' => Q .non H', rt := Q } (start N vs) H) :
    FnOk P w K mg base CX0 (k + 1) f fd ps sp := by
  obtain ⟨oc, od, kV, doc, pm, an, ct, osl, rfl, lk, hcd⟩ := D.ex
  refine fn_of lk hcd S len fun A outer s H vs Q E room hs => ?_
  obtain ⟨t, h1, h2⟩ := body A outer s H vs Q E room hs
  exact ⟨t, PSs.nox h1, h2⟩
theorem Def.binds (D : Def K x st f c fd)
    (h : ∀ (kV doc pm : Value) (an : Option Addr) (ct : Value) (us : List Value), us.length = ps.length →
      bindArgs (PySem.W.fnOf x x (defArgs st) (defBody st) (defScope st) .none kV doc pm an (.ref c) ct) ⟨us, []⟩ = pure (ps.zip us)) : Binds K fd ps [] := by
  obtain ⟨oc, od, kV, doc, pm, an, ct, osl, rfl, lk, hcd⟩ := D.ex
  exact Binds.all (h kV doc pm an ct)
/-! ### a promise where nothing is being shown (no repr under way) -/
structure FnG (P : Program) (w : World) (K : PySem.W.Frag) (mg : Str → Option Value) (base : Heap) (k : Nat) (f : Addr) (fd : FuncData) (ps : List Str) (sp : Sp) : Prop where
  len : ∀ vs H Q E, sp vs H Q E → vs.length = ps.length
  run : ∀ (A : Around) (outer : List Env) (s : Shared) (H : Hp) (args : Args) (us : List Value) (vs : List V) (Q : VK) (E : XK), Room k A → A.guards = some [] →
    Env0 P w K mg base A outer s H → BindsTo s fd args (ps.zip us) → Vals vs us → sp vs H Q E → codeAny (model P w) A (.call (.ref f) args) (CR CX0 outer P w H s Q E) s
theorem Def.okG (D : Def K x st f c fd) (S : FnScope N ps (defScope st)) (len : ∀ vs H Q E, sp vs H Q E → vs.length = ps.length)
    (body : ∀ (A : Around) (outer : List Env) (s : Shared) (H : Hp) (vs : List V) (Q : VK) (E : XK),
      Room k (A.deeper (envOfC x (defScope st) s.heap.objs.size f (.ref c))) → A.guards = some [] → sp vs H Q E →
      ∃ t, PSs (Bx P w K mg base N x st f c A outer s H E) (defBody st) t ∧ t { nx := fun _ H' => Q .non H', rt := Q } (start N vs) H) :
    FnG P w K mg base (k + 1) f fd ps sp := by
  obtain ⟨oc, od, kV, doc, pm, an, ct, osl, rfl, lk, hcd⟩ := D.ex
  refine ⟨len, fun A outer s H args us vs Q E hr hgu e0 hb r hs => ?_⟩
  have stay : ∀ b o, base.get? b = some o → s.heap.get? b = some o := fun b o e => (e0.bs b o e).1
  have KX : K.In s.heap := e0.mod.kin.keeps stay
  have lim : s.heap.NoLimit := e0.mod.nolimit.keeps stay
  refine codeAny_call_function hr.depth (KX _ _ lk) rfl S.co S.gen rfl (PySem.W.codeRec_of KX hcd) (hb _ _ _ _ ?_)
  refine wpAny_newFunctionEnv_cells S.kind (fun y hy => ?_) fun env he s1 ic => ?_
  · have hy1 : y.1 ∈ ps := (List.of_mem_zip (show (y.1, y.2) ∈ ps.zip us from hy)).1
    rcases S.par y.1 hy1 with q | q
    · exact Or.inl q
    · exact Or.inr ⟨q, PySem.W.cellsFrom_some _ _ _ (Or.inl q)⟩
  subst he
  refine ⟨lim.keeps ic.toInCall.keep, codeAny_func ?_⟩
  obtain ⟨t, ht, hq⟩ := body A outer s H vs Q E (hr.deeper _) hgu hs
  have I := inv_start (CX := CX0) (E := E) S hr.hd e0 (len _ _ _ _ hs) r ic
  refine wpAny_mono ((PSs.nox ht).run [] s1 (start N vs) H _ I hq) (fun fl s2 h2 => ?_) fun _ _ z => z
  cases fl with
  | ret u =>
    obtain ⟨v, _, H2, J, rv, q⟩ := h2
    exact ⟨v, H2, J.os, J.bare, J.base, J.hok, rv, q⟩
  | next =>
    obtain ⟨_, H2, J, q⟩ := h2
    exact ⟨V.non, H2, J.os, J.bare, J.base, J.hok, rfl, q⟩
  | brk => exact (let ⟨_, _, _, q⟩ := h2; False.elim q)
  | cont => exact (let ⟨_, _, _, q⟩ := h2; False.elim q)
end
/-! ### repr of data -/
section
variable {X : Cx}
def rRepr (K : PySem.W.Frag) : List V → Hp → VK → Prop := fun xs H Q => ∃ (x : V) (d : PyData), xs = [x] ∧ Dp K H x d ∧ d.showable = true ∧ d.canLay0 = true ∧ d.depth ≤ 32 ∧ d.shown.length ≤ 16000000 ∧ Q (.str d.shown) H
theorem call_repr (hg : X.A.guards = some []) (hu : X.A.units + 64 < cLine) : CallR X (.builtin "repr") (rRepr X.K) := by
  intro pins s σ H xs us Q I r h
  obtain ⟨x, d, rfl, hd, hs, hc, hdp, hz, q⟩ := h
  obtain ⟨u, rfl, ru⟩ := vals1 r
  obtain ⟨as, rd⟩ := Dp.reads I d x u hd ru
  have hdd := PyData.hasDict_of_canLay d hc
  have hzz : d.shown.length ≤ sizeLine := by rw [sizeLine_eq]; omega
  have fin : ∀ (h' : Heap) (tk : Tok) (tk' : Nat), (∀ b o, s.heap.get? b = some o → h'.get? b = some o) → EP X pins σ Q (.str d.shown tk) { s with heap := h', toks := tk' } :=
    fun h' tk tk' hk => ⟨.str d.shown, H, I.kept hk, ⟨tk, rfl⟩, q⟩
  cases hd with
  | non => cases ru; exact PySem.P.repr_of_none (fin s.heap _ _ fun _ _ e => e)
  | bl b => cases ru; exact PySem.P.repr_of_bool (fin s.heap _ _ fun _ _ e => e)
  | int i =>
    obtain ⟨t, rfl⟩ := ru
    have hi : i.natAbs.log2 < 1920 := by simpa [PyData.showable] using hs
    exact PySem.P.repr_of_int hi (fin s.heap _ _ fun _ _ e => e)
  | str z =>
    obtain ⟨t, rfl⟩ := ru
    exact PySem.P.repr_of_str (fin s.heap _ _ fun _ _ e => e) hzz
  | lst h1 h2 =>
    cases ru
    exact repr_of_reads' rd hs (PyData.noDict_hsm hdd) hg (by omega) (fun _ _ e => e) (fun h' u tk hk => fin h' u tk hk) hzz
  | tup h1 h2 =>
    cases ru
    exact repr_of_reads' rd hs (PyData.noDict_hsm hdd) hg (by omega) (fun _ _ e => e) (fun h' u tk hk => fin h' u tk hk) hzz
end
end Mw

namespace Mw
open PySem PySem.Spec PyProof.Rows L2
/-! ### the end of a law row: the law's def runs where nothing is under way; tables of code objects are tracked -/
/-- the abstract heap at the law's call: the tables, and the script where it is no object of the text -/
def H0 (K : PySem.W.Frag) (a : Addr) (ob : Obj) (xs : List V) (T : List Addr) : Hp := fun b =>
  if b ∈ T then some (.tbl #[]) else if b = a ∧ K.lookup a = none then some (.frz ob (.lst xs)) else none
section
variable {P : Program} {w : World} {K : PySem.W.Frag} {mg mb : Str → Option Value} {k : Nat} {fa a : Addr} {cs : List (Addr × Addr)} {fd : FuncData} {x : Str} {sp : Sp} {s : Shared} {vs : List Value} {ns : List Int}
abbrev scr (vs : List Value) : Obj := { cls := .type "list", data := .seq vs.toArray }
abbrev tb0 : Obj := { cls := .none, data := .fields #[] }
theorem law_run (KX : K.In s.heap) (hns : s.heap.Ns mainGlobals mg) (hb : s.heap.Ns builtinsNs mb) (hbb : ∀ y : Str, y ≠ "__name__" → mb y = bootBuiltins y)
    (hlim : s.heap.NoLimit) (hg : s.gens = #[]) (tab : ∀ p ∈ cs, s.heap.get? p.2 = some tb0) (tabK : ∀ p ∈ cs, K.lookup p.2 = none)
    (cod : ∀ p ∈ cs, PySem.W.CodeHd s.heap p.1 p.2)
    (hbm : ∃ (bm : Addr) (ob : Obj), mg "__builtins__" = some (.ref bm) ∧ bm ≠ builtinsNs ∧ s.heap.get? bm = some ob ∧ ob.cls = .type "module" ∧ ob.dict = some builtinsNs ∧ ob.data = .plain)
    (ha : s.heap.get? a = some (scr vs)) (hi : IntsAre vs ns) (hl : ns.length ≤ sizeLine) (hr : Room k callerA)
    (F : ∀ base : Heap, K.In base → base.Ns mainGlobals mg → (∀ p ∈ cs, GxR.TabB base mg p.1 p.2) → FnG P w K mg base k fa fd [x] sp)
    (hbind : ∀ (s : Shared) (u : Value), BindsTo s fd ⟨[u], []⟩ [(x, u)])
    (hsp : ∀ H : Hp, (∀ p ∈ cs, H p.2 = some (.tbl #[])) → SqL K H a (ns.map V.int) → sp [.ref a] H (fun v _ => v = .bl true) fun _ _ _ => False) :
    codeAny (model P w) callerA (.call (.ref fa) ⟨[.ref a], []⟩)
      (fun r s' => r = .ok (.ret (.bool true)) ∧ OldK s.heap s'.heap ∧ s'.os = s.os ∧ AllBare s'.gens) s := by
  have rv : Vals (ns.map V.int) vs := vals_ints hi
  have lv : vs.length = ns.length := hi.length
  obtain ⟨T, hTd⟩ : ∃ T, T = cs.map (·.2) := ⟨_, rfl⟩
  have tT : ∀ b ∈ T, s.heap.get? b = some tb0 ∧ K.lookup b = none := fun b h => by
    rw [hTd] at h
    obtain ⟨p, hp, rfl⟩ := List.mem_map.mp h
    exact ⟨tab p hp, tabK p hp⟩
  have cT : ∀ p ∈ cs, p.2 ∈ T := fun p hp => by rw [hTd]; exact List.mem_map.mpr ⟨p, hp, rfl⟩
  have aT : a ∉ T := fun h => by
    have e := (tT a h).1
    rw [ha] at e
    exact absurd (congrArg Obj.data (Option.some.inj e)) (fun z => by cases z)
  obtain ⟨H, hH⟩ : ∃ H, H = H0 K a (scr vs) (ns.map V.int) T := ⟨_, rfl⟩
  have hT1 : ∀ b ∈ T, H b = some (.tbl #[]) := fun b h => by rw [hH]; exact if_pos h
  have hA1 : K.lookup a = none → H a = some (.frz (scr vs) (.lst (ns.map V.int))) := fun h => by
    rw [hH]; exact (if_neg aT).trans (if_pos ⟨rfl, h⟩)
  have hN1 : ∀ b, b ∉ T → ¬ (b = a ∧ K.lookup a = none) → H b = none := fun b h1 h2 => by
    rw [hH]; exact (if_neg h1).trans (if_neg h2)
  have three : ∀ b, (b ∈ T) ∨ (b = a ∧ K.lookup a = none ∧ b ∉ T) ∨ H b = none := fun b => by
    by_cases h1 : b ∈ T
    · exact .inl h1
    · by_cases h2 : b = a ∧ K.lookup a = none
      · exact .inr (.inl ⟨h2.1, h2.2, h1⟩)
      · exact .inr (.inr (hN1 b h1 h2))
  have hok : HOk P w H s.heap := fun b u e => by
    rcases three b with h | ⟨h1, h2, _⟩ | h
    · rw [hT1 b h] at e; cases e; exact (tT b h).1
    · subst h1
      rw [hA1 h2] at e; cases e
      exact ⟨ha, by rw [List.length_map]; exact hl, vs, _, rv, ha⟩
    · rw [h] at e; cases e
  have bk : ∀ b o, s.heap.get? b = some o → H b = none → (hidT s.heap H).get? b = some o := fun b o e n => hidT_get e n
  have other : ∀ b o, s.heap.get? b = some o → o.data ≠ .fields #[] → (∀ us n, o.data ≠ .seq us n) → H b = none := fun b o e d1 d2 => by
    rcases three b with h | ⟨h1, _, _⟩ | h
    · rw [(tT b h).1] at e; cases e; exact absurd rfl d1
    · subst h1; rw [ha] at e; cases e; exact absurd rfl (d2 _ _)
    · exact h
  have nsB : ∀ b m, s.heap.Ns b m → (hidT s.heap H).Ns b m := fun b m ⟨o, es, ep, e, d, r⟩ =>
    ⟨o, es, ep, bk b o e (other b o e (by rw [d]; nofun) fun us n => by rw [d]; nofun), d, r⟩
  have KB : K.In (hidT s.heap H) := fun b o e => bk b o (KX b o e) (by
    rcases three b with h | ⟨h1, h2, _⟩ | h
    · rw [(tT b h).2] at e; cases e
    · subst h1; rw [h2] at e; cases e
    · exact h)
  have md : Mod K mg (hidT s.heap H) := ⟨KB, nsB _ _ hns, ⟨mb, nsB _ _ hb, hbb⟩, let ⟨mc, h1, h2⟩ := hlim; ⟨mc, nsB _ _ h1, h2⟩⟩
  have TB : ∀ p ∈ cs, GxR.TabB (hidT s.heap H) mg p.1 p.2 := fun p hp => by
    refine ⟨?_, ?_, fun z => ?_⟩
    · obtain ⟨o, us, fi, tf, fl, tg, inF, tx, tt, e1, r1, r2, r3, r4, r5, r6, r7, r8, r9⟩ := cod p hp
      refine ⟨o, us, fi, tf, fl, tg, inF, tx, tt, bk _ o e1 (other _ o e1 (fun z => ?_) fun ws n => by rw [r2]; nofun), r1, r2, r3, r4, r5, r6, r7, r8, r9⟩
      rw [r2] at z
      cases z
      simp at r3
    · obtain ⟨bm, ob, b1, b2, b3, b4, b5, b6⟩ := hbm
      refine ⟨bm, ob, b1, b2, fun q => ?_, fun q => ?_, bk _ ob b3 (other _ ob b3 (by rw [b6]; nofun) fun us n => by rw [b6]; nofun), b4, b5, b6⟩
      · obtain ⟨o, es, ep, e, d, _⟩ := hns
        rw [q, e] at b3
        cases b3
        rw [d] at b6
        cases b6
      · rw [q, tab p hp] at b3
        cases b3
        cases b6
    · obtain ⟨o, es, ep, e, d, _⟩ := hns
      rw [z, tab p hp] at e
      cases e
      cases d
  have e0 : Env0 P w K mg (hidT s.heap H) callerA [] s H :=
    ⟨rfl, md, fun b o e => of_hidT e, Nat.le_of_eq (hidT_size _ _), trivial, fun b hb => absurd (show b ∈ ([] : List Addr) from hb) List.not_mem_nil, hok, .of_eq hg⟩
  have sq : SqL K H a (ns.map V.int) := by
    cases q : K.lookup a with
    | none => exact .inl (.inr ⟨_, hA1 q⟩)
    | some o =>
      have e := KX a o q
      rw [ha] at e
      cases e
      exact .inr ⟨_, vs.toArray, _, q, rfl, rfl, rfl, by rw [List.size_toArray, lv]; exact hl, by simpa using rv⟩
  refine codeAny_mono ((F _ KB (nsB _ _ hns) TB).run callerA [] s H ⟨[.ref a], []⟩ [.ref a] [.ref a] _ _ hr rfl e0 (hbind s (.ref a)) (.cons rfl .nil) (hsp H (fun p hp => hT1 _ (cT p hp)) sq)) fun r s2 h => ?_
  cases r with
  | error e => exact False.elim h
  | ok fl =>
    cases fl with
    | next => exact False.elim h
    | brk => exact False.elim h
    | cont => exact False.elim h
    | ret u =>
      obtain ⟨v, H2, os, bare, un, hok2, ru, q⟩ := h
      obtain rfl : v = .bl true := q
      obtain rfl : u = Value.bool true := ru
      have old : ∀ b o, b ∉ T → s.heap.get? b = some o → s2.heap.get? b = some o := fun b o nb e => by
        rcases three b with h | ⟨h1, h2, _⟩ | h
        · exact absurd h nb
        · subst h1
          have z := hok2 _ _ (un.frzs _ _ _ (hA1 h2))
          rw [ha] at e
          cases e
          exact z.1
        · exact un.keep b o e h (by intro z; cases z) (by simp)
      have grown : ∀ b ∈ T, ∃ more : Array Value, s2.heap.get? b = some { cls := .none, data := .fields more } := fun b hb => by
        obtain ⟨more, z⟩ := un.tbls b #[] (hT1 b hb)
        exact ⟨_, hok2 b _ z⟩
      refine ⟨rfl, ⟨fun b o e => ?_, fun b o e => ?_⟩, os, bare⟩
      · by_cases hb : b ∈ T
        · obtain ⟨more, hm⟩ := grown b hb
          rw [hTd] at hb
          obtain ⟨p, hp, rfl⟩ := List.mem_map.mp hb
          rw [tab p hp] at e
          cases e
          exact .inr (.inl ⟨((cod p hp).tab (tab p hp)).isCodeTable, rfl, #[], more, rfl, by rw [Array.empty_append]; exact hm⟩)
        · exact .inl (old b o hb e)
      · by_cases hb : b ∈ T
        · obtain ⟨more, hm⟩ := grown b hb
          exact ⟨_, hm⟩
        · exact ⟨o, old b o hb e⟩
end
/-- what the head tells of a def of the view -/
def TabOf (K : PySem.W.Frag) (h : Heap) (x : Str) : Prop := ∀ c Q, PySem.W.tabIn K x = some (c, Q) → PySem.W.CodeHd h c Q ∧ h.get? Q = some tb0
/-- the goal that k_head leaves -/
theorem law_end {l : PySem.W.OpenLaw} {n k : Nat} {q : Program} {loose : List Str} {XP : (Str → Option Value) → Heap → Prop} {YP : World → Heap → Prop} {d : DefRec} {K : Params → PySem.W.Frag} {x : Str}
    (hn : l.most = some n) (hn2 : n ≤ sizeLine) (hdf : d.params.defaults = []) (hr : Room k callerA) (hY : ∀ (w : World) (h : Heap), YP w h → (K w.params).In h)
    (F : ∀ (w : World) (mg : Str → Option Value) (fa : Addr) (h : Heap), (K w.params).In h → h.Ns mainGlobals mg → mg d.name = some (.ref fa) →
      (∀ (y : Str), ((recsOf q).any fun e => e.name == y) = true → TabOf (K w.params) h y) →
      ∃ (fd : FuncData) (cs : List (Addr × Addr)) (sp : Sp), (∀ p ∈ cs, h.get? p.2 = some tb0 ∧ (K w.params).lookup p.2 = none ∧ PySem.W.CodeHd h p.1 p.2) ∧
        (∀ (s : Shared) (u : Value), BindsTo s fd ⟨[u], []⟩ [(x, u)]) ∧
        (∀ (H : Hp) (a : Addr) (ns : List Int), ns.length ≤ n → (∀ z ∈ ns, Builtin.Int.intBits z ≤ 1048576) → (∀ p ∈ cs, H p.2 = some (.tbl #[])) → SqL (K w.params) H a (ns.map V.int) →
          sp [.ref a] H (fun v _ => v = .bl true) fun _ _ _ => False) ∧
        ∀ base : Heap, (K w.params).In base → base.Ns mainGlobals mg → (∀ p ∈ cs, GxR.TabB base mg p.1 p.2) → FnG l.prog w (K w.params) mg base k fa fd [x] sp) :
    PySem.W.WalkO q loose XP YP l.row.toRowW d [] (fun f vs => PySem.call f vs) := by
  refine Att.attach_callB hn hdf fun w s0 s1 mg mb fa o pm cd doc a vs ns G Y ho hd hcd hmg hobj hints hlen hbits hg => ?_
  have KX := hY w _ Y
  have tabs : ∀ (y : Str), ((recsOf q).any fun e => e.name == y) = true → TabOf (K w.params) s1.heap y := fun y hy c Q ht => by
    have h1 : ((recsOf q).find? fun e => e.name == y).isSome = true := by
      rw [List.find?_isSome]
      obtain ⟨e, he, hz⟩ := List.any_eq_true.mp hy
      exact ⟨e, he, hz⟩
    obtain ⟨dy, hdy⟩ := Option.isSome_iff_exists.mp h1
    exact PySem.W.tab_of G.T KX hdy ht
  obtain ⟨fd, cs, sp, h1, h2, h3, h4⟩ := F w mg fa _ KX G.T.g hmg tabs
  exact law_run KX G.T.g G.T.b G.T.builtins G.T.nolimit hg (fun p hp => (h1 p hp).1) (fun p hp => (h1 p hp).2.1) (fun p hp => (h1 p hp).2.2) G.T.bmain hobj hints (Nat.le_trans hlen hn2) hr h4 h2
    fun H hH hS => h3 H a ns hlen hbits hH hS
end Mw

namespace Mw
open PySem PySem.Spec PyProof.Rows L2
/-! ### generator expressions: the element runs in a frame of its own -/
/-- around the element: one frame more -/
structure GA (X : Cx) (cenv : Env) (B : Around) : Prop where
  hd : B.handled = none
  fr : B.frames = some (cenv :: X.stack)
  gu : B.guards = X.A.guards
  dp : B.depth ≤ X.A.depth + 1
  un : B.units ≤ X.A.units + 12
theorem GA.room {X : Cx} {cenv : Env} {B : Around} {k : Nat} (a : GA X cenv B) (r : Room (k + 1) X.A) : Room k B :=
  ⟨a.hd, by have := a.dp; have := r.dp; omega, by have := a.un; have := r.un; omega⟩
/-- the context of the element -/
abbrev gcx (X : Cx) (B : Around) (s : Shared) (H : Hp) (cenv : Env) (fp : List Addr) : Cx :=
  { X with A := B, s_0 := s, H_0 := H, env := cenv, outer := X.stack, stack := cenv :: X.stack, ex := fp, fn := fun _ => false, calm := true, pn := [], xe := fun _ _ => False }
abbrev gEnv (X : Cx) (scope : Scope) (C : Addr) (code : Value) : Env := genEnv scope (cloFrom X.env.cells scope.names []) C code builtinsNs X.env
section
variable {X : Cx} {pins : List (Addr × Obj)} {σ : L2.St} {H : Hp} {s : Shared}
theorem gen_start {scope : Scope} {own : List (Str × Nat)} {fp : List Addr} {B : Around} {code : Value} {m : Str → Option Value} {t : Shared}
    (I : Inv X pins σ H s) (ok : BlkOk X.N X.env.scope scope own) (nc : ∀ y ∈ scope.names, y.2 ≠ .cell) (hN : X.N.Nodup) (hfp : ∀ b ∈ fp, FpOk X pins H b ∧ b < s.heap.objs.size)
    (ga : GA X (gEnv X scope s.heap.objs.size code) B) (os : t.os = s.os) (bare : AllBare t.gens) (kp : ∀ b o, s.heap.get? b = some o → t.heap.get? b = some o) (hn : t.heap.Ns s.heap.objs.size m) :
    Inv (gcx X B s H (gEnv X scope s.heap.objs.size code) fp) [] (wipe σ (own.map (·.2))) H t := by
  have hfree : ∀ y ∈ scope.names, y.2 = .free → ∃ c, X.env.cells.lookup y.1 = some c := fun y hy e => by
    rcases ok.free y hy e with k | k
    · exact I.ok.has _ (.inl k)
    · exact I.ok.has _ (.inr k)
  have cl : ∀ {y c}, (cloFrom X.env.cells scope.names []).lookup y = some c → X.env.cells.lookup y = some c ∧ c < s.heap.objs.size := fun {y c} e => by
    rcases cloFrom_mem (PySem.mem_of_lookup e) with hm | ⟨h1, h2⟩
    · cases hm
    · obtain ⟨c1, hc1⟩ := hfree _ h1 rfl
      have hc1' : X.env.cells.lookup y = some c1 := hc1
      rw [hc1'] at h2
      have e2 : c = c1 := h2
      rw [e2]
      obtain ⟨_, z⟩ := I.cell _ _ hc1'
      exact ⟨hc1', z.lt⟩
  have cf : ∀ {y}, scope.names.lookup y = some .free → ∃ c, (cloFrom X.env.cells scope.names []).lookup y = some c := fun {y} e => by
    obtain ⟨c, h⟩ := mem_lookup (cloFrom_has (cells := X.env.cells) (acc := []) (PySem.mem_of_lookup e))
    exact ⟨c, h⟩
  have okG : (gcx X B s H (gEnv X scope s.heap.objs.size code) fp).Ok := by
    refine ⟨I.ok.mod, ok.kind, I.ok.glob, rfl, Nat.le_refl _, fun y z c e1 e2 => I.ok.inj y z c (cl e1).1 (cl e2).1, fun y hy => ?_, fun y c z => (Bool.false_ne_true z).elim, fun _ => ga.hd, ga.fr, .inr ⟨rfl, rfl⟩,
      fun b hb => ⟨Nat.ne_of_lt (hfp b hb).2, fun y c e => (hfp b hb).1.2.2.2.2.1 y c (cl e).1⟩, I.bs, Nat.le_trans I.ok.bsz I.sz, fun b o e hb => ?_, fun b hb z => ?_, I.stack, I.stkFree⟩
    · have hy' : scope.names.lookup y = some .cell ∨ scope.names.lookup y = some .free := hy
      rcases hy' with h | h
      · exact absurd rfl (nc _ (PySem.mem_of_lookup h))
      · exact cf h
    · rcases (hfp b hb).1.2.2.2.1 with z | z
      · exact I.ok.noex b o e z
      · exact absurd (Nat.lt_of_lt_of_le (Heap.lt_size e) (Nat.le_trans I.ok.bsz z)) (Nat.lt_irrefl _)
    · rcases List.mem_cons.mp (I.stkSub b z) with z | z
      · exact (hfp b hb).1.2.1 z
      · exact (hfp b hb).1.2.2.1 z
  refine ⟨okG, os, bare, Un.kept kp, ⟨m, hn, fun i y v e1 e2 e3 => ?_⟩, fun y c e => ?_, I.hok.fresh (Nat.le_refl _), fun y c e => I.freeC y c (cl e).1, fun p hp => ?_, I.hok.kept kp, by rw [wipe_length]; exact I.len⟩
  · obtain ⟨e2, hw⟩ := wipe_some e2
    have nl : ∀ k, scope.names.lookup y = some k → k = .local ∨ k = .cell → False := fun k hk hk' => by
      rcases ok.own _ (PySem.mem_of_lookup hk) hk' with q | q
      · obtain ⟨p, hp, hpy⟩ := List.mem_map.mp q
        have e4 := ok.ix p hp
        have hpy' : p.1 = y := hpy
        rw [hpy'] at e4
        exact hw (List.mem_map.mpr ⟨p, hp, nodup_ix hN e4 e1⟩)
      · exact q (List.mem_of_getElem? e1)
    have fr : scope.names.lookup y = some .free := by
      have e3' : Vis scope y := e3
      rcases e3' with k | k | k
      · exact (nl _ k (.inl rfl)).elim
      · exact (nl _ k (.inr rfl)).elim
      · exact k
    obtain ⟨c, hc⟩ := cf fr
    have hc2 := (cl hc).1
    obtain ⟨m1, _, hl⟩ := I.loc
    have vs : Vis X.env.scope y := (ok.free _ (PySem.mem_of_lookup fr) rfl).elim (fun k => .inr (.inl k)) (fun k => .inr (.inr k))
    obtain ⟨u, ru, lk⟩ := hl i y v e1 e2 vs
    refine ⟨u, ru, .inr ⟨.inr fr, c, hc, ?_⟩⟩
    rcases lk with ⟨k, _⟩ | ⟨_, c', e', z⟩
    · have k' : X.env.scope.names.lookup y = some .local := k
      rcases ok.free _ (PySem.mem_of_lookup fr) rfl with q | q
      · rw [show X.env.scope.names.lookup y = _ from q] at k'; cases k'
      · rw [show X.env.scope.names.lookup y = _ from q] at k'; cases k'
    · rw [hc2] at e'; cases e'
      exact z.keeps kp
  · obtain ⟨u, z⟩ := I.cell y c (cl e).1
    exact ⟨u, z.keeps kp⟩
  · exact absurd (show p ∈ ([] : List (Addr × Obj)) ++ [] from hp) (by simp)
/-- while the generator sleeps only objects at sl turn -/
structure Idle (sl : List Addr) (s t : Shared) : Prop where
  os : t.os = s.os
  bare : AllBare t.gens
  kp : ∀ b o, b ∉ sl → s.heap.get? b = some o → t.heap.get? b = some o
  ob : ∀ b ∈ sl, ∃ o, t.heap.get? b = some o
theorem Inv.idle {sl : List Addr} {t : Shared} (I : Inv X pins σ H s) (f : ∀ b ∈ sl, FpOk X pins H b) (z : Idle sl s t) : Inv X pins σ H t := by
  obtain ⟨th, tg, td, tt, to⟩ := t
  obtain rfl : to = s.os := z.os
  have nb : ∀ b u, H b = some u → b ∉ sl := fun b u e hb => by rw [(f b hb).1] at e; cases e
  refine I.step (g' := tg) (t' := tt) (d' := td) (ch := sl) (fun b hb => ⟨(f b hb).2.2.2.1, (f b hb).2.1, (f b hb).2.2.2.2.1, (f b hb).2.2.2.2.2⟩) (fun b o _ _ hc e _ => z.kp b o hc e)
    (fun b o _ _ hc e _ => ⟨o.slots, z.kp b o hc e⟩) (fun _ _ _ _ n => n) (fun b o hc e => ⟨o, z.kp b o hc e⟩) (fun _ _ e => e) (fun _ _ _ e => e) (fun b ps e => ⟨#[], by rw [e]; simp⟩) (fun m hm => ?_) (fun b u e => ?_) z.bare
  · obtain ⟨o, es, ep, ho, r⟩ := hm
    exact ⟨o, es, ep, z.kp _ o (fun hb => (f _ hb).2.1 rfl) ho, r⟩
  · refine (I.hok b u e).stay (fun c v hc q => z.kp c v ?_ q) (fun _ q => q) fun _ _ q => q
    rcases hc with y | y
    · rw [y]; exact nb b u e
    · exact nb c _ y
end
end Mw

namespace Mw
open PySem PySem.Spec PyProof.Rows L2
/-! ### the turns of a generator expression -/
/-- who draws: what it keeps (a), at objects of its own (sl) -/
structure Con (α : Type) (sl : List Addr) where
  stp : α → V → Option α
  cs : α → Heap → Prop
  ob : ∀ a h, cs a h → ∀ b ∈ sl, ∃ o, h.get? b = some o ∧ ∀ v, o.data ≠ .cell v
  kp : ∀ a h h', cs a h → (∀ b ∈ sl, ∀ o, h.get? b = some o → h'.get? b = some o) → cs a h'
section
variable {α : Type} {sl : List Addr}
def gY (Y : Cx) (c : Con α sl) (Fi : α → V → Hp → Prop) : Protocol := fun n s0 v s1 kap =>
  ∃ (a : α) (y : V) (ps : List (Addr × Obj)) (σ : L2.St) (H : Hp), RelV y v ∧ Inv Y ps σ H s1 ∧ (∀ b ∈ sl, H b = none) ∧ c.cs a s1.heap ∧
    ((c.stp a y = none ∧ Fi a y H) ∨ ∃ a', c.stp a y = some a' ∧ ∀ s2, Idle sl s1 s2 → c.cs a' s2.heap → kap (.send .none) s2)
def gR (Y : Cx) (c : Con α sl) (En : α → Hp → Prop) : Nat → Shared → Shared → Prop := fun n s0 s1 =>
  ∃ (a : α) (ps : List (Addr × Obj)) (σ : L2.St) (H : Hp), Inv Y ps σ H s1 ∧ (∀ b ∈ sl, H b = none) ∧ c.cs a s1.heap ∧ En a H
/-- what the turns ask -/
def turns (J : It) (g : TG) (tt : TT) (te : TE) (vs : List Nat) (stp : α → V → Option α) (Fi : α → V → Hp → Prop) (En : α → Hp → Prop) (σ : L2.St) (W : Nat → Nat → α → Hp → Prop) : Prop :=
  ∀ i m a H, W i m a H → (J.stop i H ∧ En a H) ∨ (J.go i H ∧ ∃ Nx : α → Hp → Prop, (∀ a' H', Nx a' H' → ∃ m', m' < m ∧ W (i + 1) m' a' H') ∧
    ∀ x H', J.yld i H x H' → g x (wipe σ vs) H' fun σ2 H2 => wipe σ2 vs = wipe σ vs ∧ tt σ2 H2 fun b H3 =>
      if b = true then te σ2 H3 fun y H4 => (stp a y = none ∧ Fi a y H4) ∨ ∃ a', stp a y = some a' ∧ Nx a' H4 else Nx a H3)
section
variable {Y : Cx} {fp : List Addr} {it : Addr} {tn : Nat → Heap → Prop} {J : It} {elt tg iter : Expr} {ifs : List Expr} {scope : Scope} {pos : Pos} {g : TG} {tt : TT} {te : TE} {vs : List Nat} {σ : L2.St} {W : Nat → Nat → α → Hp → Prop} {Fi : α → V → Hp → Prop} {En : α → Hp → Prop} {Ag : Around}
theorem gen_loop (c : Con α sl) (hcalm : Y.calm = true) (hpn : Y.pn = []) (hxe : Y.xe = fun _ _ => False) (hex : Y.ex = fp) (T : Turn Y.prog Y.w Y.K tg J fp it tn) (dj : ∀ b ∈ fp, b ∉ sl)
    (sf : ∀ b ∈ sl, b ≠ Y.env.locals ∧ b ∉ Y.fs ∧ Y.s_0.heap.objs.size ≤ b ∧ ∀ x c, Y.env.cells.lookup x = some c → c ≠ b)
    (pg : PG Y tg g) (pt : PTs Y ifs tt) (pe : PE Y elt te) (hco : Y.env.scope.isCoroutine = false)
    (hA : Ag.over (.compLoop (.GeneratorExp elt [⟨tg, iter, ifs, 0⟩] scope pos) 0 (.ref it) .none Y.env) [] = Y.A) (tu : turns J g tt te vs c.stp Fi En σ W) :
    ∀ (m n i : Nat) (a : α) (s0 s : Shared) (H : Hp), m < n → W i m a H → Inv Y [] (wipe σ vs) H s → tn i s.heap → (∀ b ∈ fp, H b = none) → (∀ b ∈ sl, H b = none) → c.cs a s.heap →
      Seg (model Y.prog Y.w) Ag (fun n s0 r s1 => r = .ok .next ∧ gR Y c En n s0 s1) (gY Y c Fi) n s0
        (.compLoop (.GeneratorExp elt [⟨tg, iter, ifs, 0⟩] scope pos) 0 (.ref it) .none Y.env)
        ((model Y.prog Y.w).den (.compLoop (.GeneratorExp elt [⟨tg, iter, ifs, 0⟩] scope pos) 0 (.ref it) .none Y.env)) [] s := by
  have hyo : ∀ v, yieldOut Y.env v = yieldValue v := fun v => by simp only [yieldOut, hco, Bool.false_eq_true, if_false]
  have nop : ∀ {H : Hp} {s : Shared} {ps : List (Addr × Obj)} {σ' : L2.St}, Inv Y ps σ' H s → Inv Y [] σ' H s := fun {H s ps σ'} I => I.pins_of fun p hp => by cases hp
  have slOk : ∀ {H : Hp} {ps : List (Addr × Obj)}, (∀ b ∈ sl, H b = none) → (∀ p ∈ ps, p.1 ∉ sl) → ∀ b ∈ sl, FpOk Y ps H b := fun {H ps} h1 h2 b hb =>
    ⟨h1 b hb, (sf b hb).1, (sf b hb).2.1, .inr (sf b hb).2.2.1, (sf b hb).2.2.2, fun p hp e => h2 p (by rw [hpn] at hp; exact hp) (by rw [e]; exact hb)⟩
  have fpOk : ∀ {H : Hp} {s : Shared} {ps : List (Addr × Obj)} {σ' : L2.St}, Inv Y ps σ' H s → (∀ b ∈ fp, H b = none) → (∀ p ∈ ps, p.1 ∉ fp) → ∀ b ∈ fp, FpOk Y ps H b := fun {H s ps σ'} I h1 h2 b hb => by
    have hb' : b ∈ Y.ex := by rw [hex]; exact hb
    exact ⟨h1 b hb, (I.ok.exf b hb').1, I.ok.exfs b hb', .inl hb', (I.ok.exf b hb').2, fun p hp e => h2 p (by rw [hpn] at hp; exact hp) (by rw [e]; exact hb)⟩
  intro m
  induction m using Nat.strongRecOn with
  | ind m ih =>
    intro n i a s0 s H hmn w I st nfp nsl hcs
    show Seg _ Ag _ _ n s0 _ ((compTurn (.GeneratorExp elt [⟨tg, iter, ifs, 0⟩] scope pos) 0 (.ref it) .none Y.env).onRaise (leaving Y.env)) [] s
    rw [compTurn_gen, Sem.onRaise_eq_wrap]
    refine seg_bind_wrap (wpAny_standAt ?_)
    have I1 : Inv Y ([] ++ pinsAt sl s.heap) (wipe σ vs) H s := I.pinned (slOk nsl fun p hp => by cases hp) (c.ob a s.heap hcs)
    have f1 : ∀ b ∈ fp, FpOk Y ([] ++ pinsAt sl s.heap) H b := fpOk I1 nfp fun p hp hb => by
      rw [List.nil_append] at hp
      exact dj _ hb (of_pinsAt hp).1
    rcases tu i m a H w with ⟨stop, en⟩ | ⟨go, Nx, hNx, step⟩
    · refine seg_bind_wrap ?_
      rw [hA]
      refine thn (T.done Y rfl rfl rfl hcalm i _ s _ H _ I1 f1 st stop) fun r s1 hr => ?_
      obtain ⟨rfl, J1⟩ := hr
      refine seg_end (.ok .next) ⟨rfl, a, _, _, H, J1, nsl, c.kp a _ _ hcs fun b hb o e => ?_, en⟩
      exact (J1.pin (b, o) (List.mem_append_right _ (List.mem_append_right _ (mem_pinsAt hb e)))).1
    · refine seg_bind_wrap ?_
      rw [hA]
      refine thn (T.item Y rfl rfl rfl hcalm i _ s _ H _ I1 f1 st go) fun r s1 hr => ?_
      obtain ⟨u, rfl, h1⟩ := hr
      refine seg_bind_wrap ?_
      rw [hA]
      refine thn h1 fun _ s2 h2 => ?_
      obtain ⟨x, H2, I2, rx, yl, st2, nfp2⟩ := h2
      have I3 := I2.pinned (fpOk I2 nfp2 fun p hp hb => by
        rw [List.nil_append] at hp
        exact dj _ hb (of_pinsAt hp).1) (T.obj _ _ st2)
      refine seg_bind_wrap ?_
      rw [hA]
      refine wpAny_mono (pg.run _ s2 _ H2 x u _ I3 rx (step x H2 yl)) (fun _ s3 h3 => ?_) (fun _ _ z => by rw [hxe] at z; exact z.elim)
      obtain ⟨σ3, H3, I4, hw3, q3⟩ := h3
      refine seg_bind_wrap ?_
      rw [hA]
      refine wpAny_mono (pt.run _ s3 σ3 H3 _ I4 q3) (fun b s4 h4 => ?_) (fun _ _ z => by rw [hxe] at z; exact z.elim)
      obtain ⟨H4, I5, q4⟩ := h4
      -- behind the turn
      have keepS : ∀ {s' : Shared} {H' : Hp} {σ' : L2.St}, Inv Y ([] ++ pinsAt sl s.heap ++ pinsAt fp s2.heap) σ' H' s' → (∀ b ∈ sl, H' b = none) ∧ c.cs a s'.heap ∧ tn (i + 1) s'.heap ∧ ∀ b ∈ fp, H' b = none := fun {s' H' σ'} I' => by
        have ps : ∀ b ∈ sl, ∀ o, s.heap.get? b = some o → s'.heap.get? b = some o ∧ H' b = none := fun b hb o e =>
          let z := I'.pin (b, o) (List.mem_append_right _ (List.mem_append_left _ (List.mem_append_right _ (mem_pinsAt hb e))))
          ⟨z.1, z.2.1⟩
        have pf : ∀ b ∈ fp, ∀ o, s2.heap.get? b = some o → s'.heap.get? b = some o ∧ H' b = none := fun b hb o e =>
          let z := I'.pin (b, o) (List.mem_append_right _ (List.mem_append_right _ (mem_pinsAt hb e)))
          ⟨z.1, z.2.1⟩
        refine ⟨fun b hb => ?_, c.kp a _ _ hcs fun b hb o e => (ps b hb o e).1, T.keep _ _ _ st2 fun b hb o e => (pf b hb o e).1, fun b hb => ?_⟩
        · obtain ⟨o, e, _⟩ := c.ob a s.heap hcs b hb
          exact (ps b hb o e).2
        · obtain ⟨o, e, _⟩ := T.obj _ _ st2 b hb
          exact (pf b hb o e).2
      have back : ∀ {s' : Shared} {H' : Hp} {ps : List (Addr × Obj)}, Inv Y ps σ3 H' s' → Inv Y [] (wipe σ vs) H' s' := fun {s' H' ps} I' =>
        (nop I').weak (by rw [← hw3, wipe_length]) fun j v e => by rw [← hw3] at e; exact (wipe_some e).1
      cases b with
      | false =>
        simp only [Bool.false_eq_true, if_false] at q4 ⊢
        obtain ⟨m', hm, w'⟩ := hNx a H4 q4
        obtain ⟨k1, k2, k3, k4⟩ := keepS I5
        exact seg_again rfl (ih m' hm n (i + 1) a s0 s4 H4 (by omega) w' (back I5) k3 k4 k1 k2)
      | true =>
        simp only [if_true] at q4 ⊢
        simp only [hyo]
        rw [Sem.bind_eq_wrap', Sem.bind_eq_wrap', Sem.wrap_wrap, Sem.wrap_wrap]
        refine seg_wrap ?_
        rw [hA]
        refine wpAny_mono (pe.run _ s4 σ3 H4 _ I5 q4) (fun v s5 h5 => ?_) (fun _ _ z => by rw [hxe] at z; exact z.elim)
        obtain ⟨y, H5, I6, ry, q5⟩ := h5
        obtain ⟨k1, k2, k3, k4⟩ := keepS I6
        rcases q5 with ⟨q5, q6⟩ | ⟨a', q5, nx⟩
        · obtain ⟨n', rfl⟩ : ∃ n', n = n' + 1 := ⟨n - 1, by omega⟩
          exact seg_at (seg_yield rfl rfl rfl ⟨a, y, _, _, H5, ry, I6, k1, k2, .inl ⟨q5, q6⟩⟩)
        · obtain ⟨m', hm, w'⟩ := hNx a' H5 nx
          obtain ⟨n', rfl⟩ : ∃ n', n = n' + 1 := ⟨n - 1, by omega⟩
          refine seg_at (seg_yield rfl rfl rfl ⟨a, y, _, _, H5, ry, I6, k1, k2, .inr ⟨a', q5, fun s6 z hcs' => ?_⟩⟩)
          have I7 : Inv Y [] (wipe σ vs) H5 s6 := Inv.idle (back I6) (slOk k1 fun p hp => by cases hp) z
          refine seg_again rfl (ih m' hm n' (i + 1) a' s6 s6 H5 (by omega) w' I7 (T.keep _ _ _ k3 fun b hb o e => z.kp b o (dj b hb) e) k4 k1 hcs')
end
end
end Mw

namespace Mw
open PySem PySem.Spec PyProof.Rows L2
/-! ### a generator expression is made -/
/-- the generator at ga, not begun, in the state t -/
structure GMk (X : Cx) (pins : List (Addr × Obj)) (σ : L2.St) (elt tg iter : Expr) (ifs : List Expr) (scope : Scope) (pos : Pos) (ga g : Nat) (t : Shared) (it : Addr) (fp : List Addr) (tn : Nat → Heap → Prop) (J : It) (H : Hp) (s : Shared) (code : Value) : Prop where
  turn : Turn X.prog X.w X.K tg J fp it tn
  inv : Inv X pins σ H s
  st : tn 0 t.heap
  fok : ∀ b ∈ fp, FpOk X pins H b ∧ b < s.heap.objs.size
  os : t.os = s.os
  bare : AllBare t.gens
  kp : ∀ b o, s.heap.get? b = some o → t.heap.get? b = some o
  ns : ∃ m, t.heap.Ns s.heap.objs.size m
  isg : t.heap.IsGen ga g
  gen : t.gens[g]? = some (.fresh (.compStart (.GeneratorExp elt [⟨tg, iter, ifs, 0⟩] scope pos) 0 (.ref it) .none (gEnv X scope s.heap.objs.size code)))
  ga : s.heap.objs.size < ga
section
variable {X : Cx} {pins : List (Addr × Obj)} {σ : L2.St} {H : Hp} {s : Shared}
theorem gen_eval {c P : Addr} {elt tg iter : Expr} {ifs : List Expr} {scope : Scope} {own : List (Str × Nat)} {gpos : Pos} {wi : TI} {k : Nat} {Q' : Value → Shared → Prop} {R : It → Hp → Prop}
    (hr : Room k X.A) (TB : GxR.TabB X.base X.mg c P) (hcode : X.env.code = .ref c) (hi : PI X tg iter wi) (ok : BlkOk X.N X.env.scope scope own) (nc : ∀ y ∈ scope.names, y.2 ≠ .cell) (hco : scope.isCoroutine = false)
    (dot : scope.names.lookup (".0" : Str) = some NameKind.local) (hs : ∀ v, genFold iter X.env v = pure v) (I : Inv X pins σ H s)
    (h : wi σ H fun J H1 => GxR.TabG H1 P ∧ ∀ H2, GxR.Tabbed P H1 H2 → R J H2)
    (hQ : ∀ ga g t it fp tn J H2 s2 code, GMk X pins σ elt tg iter ifs scope gpos ga g t it fp tn J H2 s2 code → R J H2 → Q' (.ref ga) t) :
    wpAny (model X.prog X.w) X.A (eval (.GeneratorExp elt [⟨tg, iter, ifs, 0⟩] scope gpos) X.env) Q' X.xe s := by
  have hfree : ∀ y ∈ scope.names, y.2 = .free → ∃ c, X.env.cells.lookup y.1 = some c := fun y hy e => by
    rcases ok.free y hy e with k | k
    · exact I.ok.has _ (.inl k)
    · exact I.ok.has _ (.inr k)
  refine wpAny_GeneratorExp_make hco (closure_ok hfree) nc dot ok.kind (by have := hr.dp; omega) ?_ hs
  refine thn (hi.run pins s σ H _ I h) fun xv s1 hx => thn hx fun itv s2 h2 => ?_
  obtain ⟨it, fp, tn, J, H1, rfl, I1, T, st1, f1, ⟨ps, hP, ht⟩, q⟩ := h2
  have hPs : s2.heap.get? P = some { cls := .none, data := .fields ps } := I1.hok P _ hP
  have cd : PySem.W.CodeHd s2.heap c P := TB.code.keeps I1.bk
  have nP : ∀ b ∈ fp, b ≠ P := fun b hb e => by
    have z := (f1 b hb).1
    rw [e, hP] at z
    cases z
  -- behind the code object
  have go : ∀ (code : Value) (h3 : Heap) (tk : Nat) (more : Array Value), (∀ b o, b ≠ P → s2.heap.get? b = some o → h3.get? b = some o) → h3.get? P = some { cls := .none, data := .fields (ps ++ more) } → TriplesOk (ps ++ more).toList →
      wpAny (model X.prog X.w) X.A (builtinsFor X.env.globals X.env.builtins) (fun bi s4 => ∀ h', h'.Ns s4.heap.objs.size (fun y => if y = (".0" : Str) then some (.ref it) else none) → Heap.SameBut s4.heap.objs.size (s4.heap.push { cls := .type "frame", data := .dict #[] }) h' →
        Q' (.ref h'.objs.size) { s4 with
          gens := s4.gens.push (.fresh (.compStart (.GeneratorExp elt [⟨tg, iter, ifs, 0⟩] scope gpos) 0 (.ref it) .none (genEnv scope (cloFrom X.env.cells scope.names []) s4.heap.objs.size code bi X.env))),
          toks := s4.toks + 1 + 1 + 1,
          heap := h'.push { cls := .type "generator", data := .fields #[.int s4.gens.size 0, .str "<genexpr>" (s4.toks + 1), .str (X.env.qual ++ "<genexpr>") (s4.toks + 1 + 1)] } }) X.xe { s2 with heap := h3, toks := tk } := by
    intro code h3 tk more kp3 hP3 ht3
    have J3 := GxR.inv_tab (more := more) (h' := h3) (g' := s2.gens) (d' := s2.drawn) (t' := tk) I1 hP kp3 hP3 I1.bare
    obtain ⟨bm, ob, e1, e2, e3, e4, e5, e6, e7, e8⟩ := TB.bm
    refine wpAny_builtinsFor (m := X.mg) (by rw [I1.ok.glob]; exact J3.mod.glob.keeps J3.bk) e1 e2 (J3.bk _ _ e5) e6 e7 e8 ?_
    intro h' hn' sb
    have sz : h'.objs.size = h3.objs.size + 1 := by rw [sb.1]; exact Heap.size_push ..
    have kp' : ∀ b o, h3.get? b = some o → h'.get? b = some o := fun b o e => sb.extBut b o (Nat.ne_of_lt (Heap.lt_size e)) (Heap.get?_push_of_some _ e)
    have kp5 : ∀ (og : Obj) b o, h3.get? b = some o → (h'.push og).get? b = some o := fun og b o e => Heap.get?_push_of_some _ (kp' b o e)
    refine hQ _ _ _ it fp tn J (upd H1 P (.tbl (ps ++ more))) _ code ⟨T, J3, ?_, fun b hb => ⟨?_, ?_⟩, rfl, ?_, kp5 _, ⟨_, hn'.push _⟩, ⟨_, _, _, Heap.get?_push_size _ rfl, rfl, rfl, rfl⟩, Array.getElem?_push_size .., ?_⟩
      (q _ ⟨⟨ps ++ more, upd_same, ht3⟩, fun b hb => upd_ne hb⟩)
    · exact T.keep _ _ _ st1 fun b hb o e => kp5 _ b o (kp3 b o (nP b hb) e)
    · obtain ⟨z1, z2, z3, z4, z5, z6⟩ := f1 b hb
      exact ⟨by rw [upd_ne (nP b hb)]; exact z1, z2, z3, z4, z5, z6⟩
    · obtain ⟨o, e, _⟩ := T.obj _ _ st1 b hb
      exact Heap.lt_size (kp3 b o (nP b hb) e)
    · exact I1.bare.push rfl
    · show h3.objs.size < h'.objs.size
      omega
  refine ⟨I1.nolimit, ?_⟩
  cases hf : codeAmong gpos ps.toList with
  | none =>
    refine wpAny_genexprCodeX hcode (cd.code hPs ht) (cd.tab hPs) hf fun c' h' tk hx hge hlt hco' _ htab' _ => ?_
    obtain ⟨o1, vs, f1, tf, fl, tg, inF, tx, tt, op, _, _, _, _, _, _, _, _, _, htr, _⟩ := hco'
    exact go _ h' tk _ hx htab'.2 htr
  | some cv =>
    refine wpAny_genexprCode_hit hcode (cd.code hPs ht) hf ?_
    exact go cv s2.heap s2.toks #[] (fun _ _ _ e => e) (by simpa using hPs) (by simpa using ht)
end
end Mw

namespace Mw
open PySem PySem.Spec PyProof.Rows L2 GenW
/-! ### the first turn; the drawing by all, any -/
section
variable {α : Type} {sl : List Addr} {X : Cx} {pins : List (Addr × Obj)} {σ : L2.St}
abbrev gG (elt tg iter : Expr) (ifs : List Expr) (scope : Scope) (pos : Pos) : Expr := .GeneratorExp elt [⟨tg, iter, ifs, 0⟩] scope pos
abbrev gB (Ag : Around) (elt tg iter : Expr) (ifs : List Expr) (scope : Scope) (pos : Pos) (it : Addr) (cenv : Env) : Around := Ag.over (.compLoop (gG elt tg iter ifs scope pos) 0 (.ref it) .none cenv) []
theorem ga_of {Ag : Around} {elt tg iter : Expr} {ifs : List Expr} {scope : Scope} {pos : Pos} {it : Addr} {cenv : Env} {k : Nat} (hr : Room k X.A) (hf : X.A.frames = some X.stack)
    (h1 : Ag.handled = X.A.handled) (h2 : Ag.frames = X.A.frames) (h3 : Ag.guards = X.A.guards) (h4 : Ag.depth = X.A.depth) (h5 : Ag.units ≤ X.A.units + 8) : GA X cenv (gB Ag elt tg iter ifs scope pos it cenv) := by
  refine ⟨h1.trans hr.hd, ?_, ?_, ?_, ?_⟩
  · show pushEnvs [cenv] (pushEnvs [] Ag.frames) = _
    rw [h2, hf]
    rfl
  · show pushGuards [] (pushGuards [] Ag.guards) = _
    rw [h3]
    rfl
  · show Ag.depth + 0 + 1 ≤ _
    omega
  · show Ag.units + 0 + 3 ≤ _
    omega
/-- the generator may be woken -/
theorem gen_goes {Ag : Around} {elt tg iter : Expr} {ifs : List Expr} {scope : Scope} {own : List (Str × Nat)} {pos : Pos} {ga g : Nat} {t : Shared} {it : Addr} {fp : List Addr} {tn : Nat → Heap → Prop} {J : It} {H : Hp} {s : Shared} {code : Value} {gg : TG} {tt : TT} {te : TE}
    {W : Nat → Nat → α → Hp → Prop} {Fi : α → V → Hp → Prop} {En : α → Hp → Prop} {k m n : Nat} {a : α} {t2 : Shared} (c : Con α sl)
    (M : GMk X pins σ elt tg iter ifs scope pos ga g t it fp tn J H s code) (hr : Room k X.A) (ok : BlkOk X.N X.env.scope scope own) (nc : ∀ y ∈ scope.names, y.2 ≠ .cell) (hN : X.N.Nodup) (hco : scope.isCoroutine = false)
    (hsl : ∀ b ∈ sl, s.heap.objs.size < b) (ga_ : GA X (gEnv X scope s.heap.objs.size code) (gB Ag elt tg iter ifs scope pos it (gEnv X scope s.heap.objs.size code)))
    (pg : PG (gcx X (gB Ag elt tg iter ifs scope pos it (gEnv X scope s.heap.objs.size code)) s H (gEnv X scope s.heap.objs.size code) fp) tg gg)
    (pt : PTs (gcx X (gB Ag elt tg iter ifs scope pos it (gEnv X scope s.heap.objs.size code)) s H (gEnv X scope s.heap.objs.size code) fp) ifs tt)
    (pe : PE (gcx X (gB Ag elt tg iter ifs scope pos it (gEnv X scope s.heap.objs.size code)) s H (gEnv X scope s.heap.objs.size code) fp) elt te)
    (tu : turns J gg tt te (own.map (·.2)) c.stp Fi En σ W) (w0 : W 0 m a H) (hmn : m < n) (os2 : t2.os = t.os) (bare2 : AllBare t2.gens) (kp2 : ∀ b o, t.heap.get? b = some o → t2.heap.get? b = some o) (cs2 : c.cs a t2.heap) :
    (GenState.fresh (.compStart (gG elt tg iter ifs scope pos) 0 (.ref it) .none (gEnv X scope s.heap.objs.size code))).Goes (model X.prog X.w) Ag
      (fun n s0 r s1 => r = .ok .next ∧ gR (gcx X (gB Ag elt tg iter ifs scope pos it (gEnv X scope s.heap.objs.size code)) s H (gEnv X scope s.heap.objs.size code) fp) c En n s0 s1)
      (gY (gcx X (gB Ag elt tg iter ifs scope pos it (gEnv X scope s.heap.objs.size code)) s H (gEnv X scope s.heap.objs.size code) fp) c Fi) n (.send .none) t2 := by
  obtain ⟨mm, ns⟩ := M.ns
  have I0 := gen_start (t := t2) (m := mm) M.inv ok nc hN M.fok ga_ (os2.trans M.os) bare2 (fun b o e => kp2 b o (M.kp b o e)) (ns.keeps kp2)
  have st0 : tn 0 t2.heap := M.turn.keep _ _ _ M.st fun b _ o e => kp2 b o e
  have nsl : ∀ b ∈ sl, H b = none := fun b hb => M.inv.hok.fresh (Nat.le_of_lt (hsl b hb))
  have nfp : ∀ b ∈ fp, H b = none := fun b hb => (M.fok b hb).1.1
  have loop := gen_loop (iter := iter) (scope := scope) (pos := pos) (Ag := Ag) (Fi := Fi) (En := En) (W := W) (σ := σ) (vs := own.map (·.2)) c rfl rfl rfl rfl M.turn
    (fun b hb hb2 => absurd (Nat.lt_trans (M.fok b hb).2 (hsl b hb2)) (Nat.lt_irrefl _))
    (fun b hb => ⟨Nat.ne_of_gt (hsl b hb), fun z => ?_, Nat.le_of_lt (hsl b hb), fun x cc e z => ?_⟩) pg pt pe hco rfl tu m n 0 a t2 t2 H hmn w0 I0 st0 nfp nsl cs2
  · refine ⟨rfl, ?_⟩
    show Seg _ Ag _ _ _ t2 _ ((compStart (gG elt tg iter ifs scope pos) 0 (.ref it) .none (gEnv X scope s.heap.objs.size code)).onRaise (leaving (gEnv X scope s.heap.objs.size code))) [] t2
    unfold compStart
    rw [Sem.onRaise_eq_wrap]
    show Seg _ Ag _ _ _ t2 _ ((ask >>= _).wrap _ _ _ _) [] t2
    refine seg_bind_wrap (wpAny_askSetting ?_)
    split
    · exact seg_again rfl loop
    · first
        | exact seg_bind_wrap (wpAny_rule (seg_bind_wrap (wpAny_standAt (seg_bind_wrap (M.turn.self _ 0 t2 _ _ st0 (seg_again rfl loop))))))
        | (refine seg_bind_wrap (wpAny_rule ?_); show Seg _ Ag _ _ _ t2 _ ((standAt iter.pos >>= _).wrap _ _ _ _) [] t2; exact seg_bind_wrap (wpAny_standAt (seg_bind_wrap (M.turn.self _ 0 t2 _ _ st0 (seg_again rfl loop)))))
  · obtain ⟨_, o, ho, _⟩ := M.inv.stack.mem (show b ∈ frs X.stack from z)
    exact absurd (Nat.lt_trans (Heap.lt_size ho) (hsl b hb)) (Nat.lt_irrefl _)
  · have lt := (I0.cell x cc e)
    obtain ⟨u, hu⟩ := lt
    have e' : (cloFrom X.env.cells scope.names []).lookup x = some cc := e
    rcases cloFrom_mem (PySem.mem_of_lookup e') with hm | ⟨h1, h2⟩
    · cases hm
    · have hfree : ∃ c1, X.env.cells.lookup x = some c1 := by
        rcases ok.free _ h1 rfl with q | q
        · exact M.inv.ok.has _ (.inl q)
        · exact M.inv.ok.has _ (.inr q)
      obtain ⟨c1, hc1⟩ := hfree
      rw [hc1] at h2
      have h2' : cc = c1 := h2
      obtain ⟨u1, z1⟩ := M.inv.cell _ _ hc1
      have := z1.lt
      rw [← h2', z] at this
      exact absurd (Nat.lt_trans this (hsl b hb)) (Nat.lt_irrefl _)
/-- back in the def -/
theorem gen_back {B : Around} {H H' : Hp} {s s' : Shared} {cenv : Env} {fp : List Addr} {ps : List (Addr × Obj)} {σ' : L2.St} {g : Nat} {x : GenState} (I : Inv X pins σ H s) (fok : ∀ b ∈ fp, FpOk X pins H b) (J : Inv (gcx X B s H cenv fp) ps σ' H' s') (hx : x.bare = true) :
    Inv X pins σ H' (s'.setGen g x) :=
  I.call' (ch := fp) (s' := s'.setGen g x) J.os J.base J.hok (allBare_setGen J.bare hx) fun b hb => ⟨(fok b hb).2.2.2.1, (fok b hb).2.1, (fok b hb).2.2.2.2.1, (fok b hb).2.2.2.2.2⟩
/-- all draws -/
def conA (ga g : Nat) (go : Bool) : Con Unit [ga] where
  stp := fun _ y => if y = .bl go then some () else none
  cs := fun _ h => h.IsGen ga g
  ob := fun _ h hc b hb => by
    obtain ⟨o, nm, qn, ho, h1, h2, h3⟩ := hc
    rw [List.mem_singleton.mp hb]
    exact ⟨o, ho, fun v z => by rw [h2] at z; cases z⟩
  kp := fun _ h h' hc k => by
    obtain ⟨o, nm, qn, ho, r⟩ := hc
    exact ⟨o, nm, qn, k _ (by simp) o ho, r⟩
theorem idle_set {s1 : Shared} {g : Nat} {x y : GenState} {ga : Addr} (hb : AllBare s1.gens) (hx : x.bare = true) (hy : y.bare = true) (hg : s1.heap.IsGen ga g) : Idle [ga] s1 ((s1.setGen g x).setGen g y) :=
  ⟨rfl, allBare_setGen (s := s1.setGen g x) (allBare_setGen hb hx) hy, fun _ _ _ e => e, fun b hb => by
    obtain ⟨o, nm, qn, ho, _⟩ := hg
    rw [List.mem_singleton.mp hb]
    exact ⟨o, ho⟩⟩
theorem all_loop {P : Program} {w : World} {A : Around} {Y : Cx} (hYP : Y.prog = P) (hYw : Y.w = w) {ga g : Nat} {Rr : Result → Shared → Prop} {Q : Bool → Hp → Prop} (hh : A.handled = none) (hd : A.depth < recursionLimit)
    (hE : ∀ ps σ H s1 h' x, x.bare = true → Inv Y ps σ H s1 → Q true H → (∀ b o, s1.heap.get? b = some o → h'.get? b = some o) → Rr (.ok (.ret (.bool true))) { s1.setGen g x with heap := h' })
    (hF : ∀ ps σ H s1 x, x.bare = true → Inv Y ps σ H s1 → Q false H → Rr (.ok (.ret (.bool false))) (s1.setGen g x)) :
    ∀ (n : Nat) (s : Shared), s.heap.IsGen ga g → s.heap.NoLimit →
      (∃ gs, s.gens[g]? = some gs ∧ gs.Goes (model P w) A.in1.in1 (fun n s0 r s1 => r = .ok .next ∧ gR Y (conA ga g true) (fun _ H => Q true H) n s0 s1) (gY Y (conA ga g true) fun _ y H => y = .bl false ∧ Q false H) n (.send .none) (s.setGen g .running)) →
      codeAny (model P w) A (.builtin "all.loop" ⟨[.ref ga], []⟩) Rr s := by
  subst hYP hYw
  intro n
  induction n with
  | zero =>
    intro s hg hl ⟨gs, hgs, hgo⟩
    refine codeAny_builtin F.entry_all_loop ?_
    rw [Around.under_plainId F.plain_all_loop _]
    show wpAny _ A.in1 (pyNext (.ref ga) >>= _) _ _ s
    refine wpAny_bind (wpAny_pyNext_genexpQ (A := A.in1) hh hl hd hg hgs hgo (fun v s1 gs' hb hv => ?_) fun s1 hp h' hk => ?_)
    · obtain ⟨a, y, ps, σ, H, ry, I, _, _, q⟩ := hv
      rcases q with ⟨_, rfl, q⟩ | ⟨a', q1, q2⟩
      · cases ry
        refine wpAny_bind (wpAny_holding (wpAny_truthy_bool ?_))
        refine wpAny_bind (wpAny_letGo ?_)
        simp only [Bool.false_eq_true, if_false]
        refine wpAny_bind (wpAny_rule (wpAny_pure ?_))
        exact hF ps σ H s1 gs' hb I q
      · have hi : s1.heap.IsGen ga g := by assumption
        exact (q2 _ (idle_set (x := .running) (y := .running) I.bare rfl rfl hi) hi).elim
    · obtain ⟨a, ps, σ, H, I, _, _, q⟩ := hp
      refine wpAny_bind (wpAny_rule (wpAny_pure ?_))
      exact hE ps σ H s1 h' .finished rfl I q hk
  | succ n ih =>
    intro s hg hl ⟨gs, hgs, hgo⟩
    have hgl : g < s.gens.size := (Array.getElem?_eq_some_iff.mp hgs).1
    refine codeAny_builtin F.entry_all_loop ?_
    rw [Around.under_plainId F.plain_all_loop _]
    show wpAny _ A.in1 (pyNext (.ref ga) >>= _) _ _ s
    refine wpAny_bind (wpAny_gsz (n := g + 1) hgl (wpAny_pyNext_genexpQ (A := A.in1) hh hl hd hg hgs hgo (fun v s1 gs' hb hv hsz => ?_) fun s1 hp h' hk hsz => ?_))
    · obtain ⟨a, y, ps, σ, H, ry, I, _, hi, q⟩ := hv
      rcases q with ⟨_, rfl, q⟩ | ⟨a', q1, q2⟩
      · cases ry
        refine wpAny_bind (wpAny_holding (wpAny_truthy_bool ?_))
        refine wpAny_bind (wpAny_letGo ?_)
        simp only [Bool.false_eq_true, if_false]
        refine wpAny_bind (wpAny_rule (wpAny_pure ?_))
        exact hF ps σ H s1 gs' hb I q
      · have ey : y = .bl true := by
          by_cases e : y = .bl true
          · exact e
          · have z : (conA ga g true).stp a y = none := if_neg e
            rw [z] at q1
            cases q1
        subst ey
        cases ry
        refine wpAny_bind (wpAny_holding (wpAny_truthy_bool ?_))
        refine wpAny_bind (wpAny_letGo ?_)
        simp only [if_true]
        have hi' : s1.heap.IsGen ga g := hi
        have hgl1 : g < s1.gens.size := by
          have e1 : (s1.setGen g gs').gens.size = s1.gens.size := setGen_size _ _ _
          omega
        refine wpAny_pure ⟨plainId_quiet F.plain_all_loop _, ih (s1.setGen g gs') hi' I.nolimit ⟨gs', setGen_at hgl1, ?_⟩⟩
        exact q2 _ (idle_set I.bare hb rfl hi') hi'
    · obtain ⟨a, ps, σ, H, I, _, _, q⟩ := hp
      refine wpAny_bind (wpAny_rule (wpAny_pure ?_))
      exact hE ps σ H s1 h' .finished rfl I q hk
end
end Mw

namespace Mw
open PySem PySem.Spec PyProof.Rows L2 GenW
/-! ### all(elt for tg in iter if ..) -/
abbrev stpA (go : Bool) : Unit → V → Option Unit := fun _ y => if y = .bl go then some () else none
def tAllG (P : Addr) (wi : TI) (g : TG) (tt : TT) (te : TE) (vs : List Nat) : TE := fun σ H Q => wi σ H fun J H1 => GxR.TabG H1 P ∧ ∀ H2, GxR.Tabbed P H1 H2 →
  ∃ W : Nat → Nat → Unit → Hp → Prop, (∃ m, W 0 m () H2) ∧ turns J g tt te vs (stpA true) (fun _ y H => y = .bl false ∧ Q (.bl false) H) (fun _ H => Q (.bl true) H) σ W
theorem boot_all : bootBuiltins "all" = some (.builtin "all") := by decide +kernel
section
variable {X : Cx}
/-- what a generator expression's parts are, in any frame of it -/
structure GParts (X : Cx) (elt tg iter : Expr) (ifs : List Expr) (scope : Scope) (own : List (Str × Nat)) (g : TG) (tt : TT) (te : TE) : Prop where
  ok : BlkOk X.N X.env.scope scope own
  nc : ∀ y ∈ scope.names, y.2 ≠ .cell
  co : scope.isCoroutine = false
  dot : scope.names.lookup (".0" : Str) = some NameKind.local
  hs : ∀ v, genFold iter X.env v = pure v
  pg : ∀ B s H C code fp, GA X (gEnv X scope C code) B → PG (gcx X B s H (gEnv X scope C code) fp) tg g
  pt : ∀ B s H C code fp, GA X (gEnv X scope C code) B → PTs (gcx X B s H (gEnv X scope C code) fp) ifs tt
  pe : ∀ B s H C code fp, GA X (gEnv X scope C code) B → PE (gcx X B s H (gEnv X scope C code) fp) elt te
theorem pe_allG {c P : Addr} {elt tg iter : Expr} {ifs : List Expr} {scope : Scope} {own : List (Str × Nat)} {p pos gpos : Pos} {wi : TI} {g : TG} {tt : TT} {te : TE} {k : Nat}
    (hr : Room k X.A) (hg : Gl X "all") (hm : X.mg "all" = none) (TB : GxR.TabB X.base X.mg c P) (hcode : X.env.code = .ref c) (hN : X.N.Nodup) (hi : PI X tg iter wi) (G : GParts X elt tg iter ifs scope own g tt te)
    (he : starEach [gG elt tg iter ifs scope gpos] X.env = (false, eval (gG elt tg iter ifs scope gpos) X.env) :: starEach [] X.env := by rfl) :
    PE X (.Call (.Name "all" p) [gG elt tg iter ifs scope gpos] [] pos) (tAllG P wi g tt te (own.map (·.2))) := by
  refine ⟨fun pins s σ H Q I h => ?_⟩
  refine wpAny_Call_Name_kw (ld_blt I hg hm boot_all ?_)
  refine PyProof.Rows.callWith_builtin1 ?_ he (by rfl)
  rw [he]
  show wpAny _ _ (spliced ((false, eval (gG elt tg iter ifs scope gpos) X.env) :: backTo pos (starEach [] X.env))) _ _ s
  refine Calls.spliced_cons (gen_eval (R := fun J H2 => ∃ W : Nat → Nat → Unit → Hp → Prop, (∃ m, W 0 m () H2) ∧ turns J g tt te (List.map (fun q : Str × Nat => q.2) own) (stpA true) (fun _ y H => y = .bl false ∧ Q (.bl false) H) (fun _ H => Q (.bl true) H) σ W)
    hr TB hcode hi G.ok G.nc G.co G.dot G.hs I h fun ga gn t it fp tn J H2 s2 code M hR => ?_)
  obtain ⟨W, ⟨m, w0⟩, tu⟩ := hR
  refine Calls.spliced_nil ?_
  refine call_function_tree F.kind_all F.plain_all F.entry_all (F.args_all1 _) ?_
  unfold Builtin.«all»
  refine wpAny_bind (m := oneArg "all" _) (wpAny_pure ?_)
  refine wpAny_bind (wpAny_pyIter_gen M.isg ?_)
  have ga_ : GA X (gEnv X scope s2.heap.objs.size code) (gB X.A.in1.in1 elt tg iter ifs scope gpos it (gEnv X scope s2.heap.objs.size code)) :=
    ga_of hr M.inv.ok.frames rfl rfl rfl rfl (by show X.A.units + 1 + 1 ≤ _; omega)
  have fok : ∀ b ∈ fp, FpOk X pins H2 b := fun b hb => (M.fok b hb).1
  refine wpAny_pure ⟨plainId_quiet F.plain_all_loop _, all_loop (Y := gcx X (gB X.A.in1.in1 elt tg iter ifs scope gpos it (gEnv X scope s2.heap.objs.size code)) s2 H2 (gEnv X scope s2.heap.objs.size code) fp) (Q := fun b H => Q (.bl b) H) rfl rfl hr.hd hr.depth
    (fun ps σ' H' s1 h' x hx J' q hk => ?_) (fun ps σ' H' s1 x hx J' q => ?_) (m + 1) t M.isg ?_ ⟨_, M.gen, ?_⟩⟩
  · refine ⟨.bl true, H', ?_, rfl, q⟩
    exact (gen_back M.inv fok J' hx).kept (t' := s1.toks) hk
  · exact ⟨.bl false, H', gen_back M.inv fok J' hx, rfl, q⟩
  · exact M.inv.nolimit.keeps M.kp
  · exact gen_goes (c := conA ga gn true) M hr G.ok G.nc hN G.co (fun b hb => by rw [List.mem_singleton.mp hb]; exact M.ga) ga_
      (G.pg _ _ _ _ _ _ ga_) (G.pt _ _ _ _ _ _ ga_) (G.pe _ _ _ _ _ _ ga_) tu w0 (Nat.lt_succ_self _) rfl (allBare_setGen M.bare rfl) (fun _ _ e => e) M.isg
end
end Mw

namespace Mw
open PySem PySem.Spec PyProof.Rows L2
/-! ### data in the heap, kept -/
/-- lists, tuples, locked things stay -/
def Kd (H H' : Hp) : Prop := ∀ b o, H b = some o → ((∃ xs, o = .lst xs) ∨ (∃ xs, o = .tup xs) ∨ ∃ ob u, o = .frz ob u) → H' b = some o
theorem Kd.refl (H : Hp) : Kd H H := fun _ _ e _ => e
theorem Kd.trans {H H1 H2 : Hp} (a : Kd H H1) (b : Kd H1 H2) : Kd H H2 := fun c o e z => b c o (a c o e z) z
theorem Kd.new {H : Hp} {p : Addr} {o : HO} (n : H p = none) : Kd H (upd H p o) := fun b u e _ => by rw [upd_ne (ne_of_none e n)]; exact e
theorem Kd.over {H : Hp} {p : Addr} {o u : HO} (e : H p = some u) (h1 : ∀ xs, u ≠ .lst xs) (h2 : ∀ xs, u ≠ .tup xs) (h3 : ∀ ob y, u ≠ .frz ob y) : Kd H (upd H p o) := fun b z eb k => by
  have nb : b ≠ p := fun q => by
    rw [q, e] at eb
    cases eb
    rcases k with ⟨xs, k⟩ | ⟨xs, k⟩ | ⟨ob, y, k⟩
    · exact h1 xs k
    · exact h2 xs k
    · exact h3 ob y k
  rw [upd_ne nb]
  exact eb
theorem Same.kd {H H' : Hp} (s : Same H H') : Kd H H' := fun b o e _ => s b o e
theorem Kd.sqL {K : PySem.W.Frag} {H H' : Hp} {a : Addr} {xs : List V} (k : Kd H H') (h : SqL K H a xs) : SqL K H' a xs := by
  rcases h with (h | ⟨o, h⟩) | h
  · exact .inl (.inl (k _ _ h (.inl ⟨xs, rfl⟩)))
  · exact .inl (.inr ⟨o, k _ _ h (.inr (.inr ⟨_, _, rfl⟩))⟩)
  · exact .inr h
theorem Kd.sqT {K : PySem.W.Frag} {H H' : Hp} {a : Addr} {xs : List V} (k : Kd H H') (h : SqT K H a xs) : SqT K H' a xs := by
  rcases h with (h | ⟨o, h⟩) | h
  · exact .inl (.inl (k _ _ h (.inr (.inl ⟨xs, rfl⟩))))
  · exact .inl (.inr ⟨o, k _ _ h (.inr (.inr ⟨_, _, rfl⟩))⟩)
  · exact .inr h
mutual
theorem Kd.dp {K : PySem.W.Frag} {H H' : Hp} (k : Kd H H') : ∀ {d : PyData} {v : V}, Dp K H v d → Dp K H' v d
  | _, _, .non => .non
  | _, _, .bl b => .bl b
  | _, _, .int i => .int i
  | _, _, .str x => .str x
  | _, _, .lst h a => .lst (k.sqL h) (k.dpAll a)
  | _, _, .tup h a => .tup (k.sqT h) (k.dpAll a)
theorem Kd.dpAll {K : PySem.W.Frag} {H H' : Hp} (k : Kd H H') : ∀ {ds : List PyData} {vs : List V}, DpAll K H vs ds → DpAll K H' vs ds
  | _, _, .nil => .nil
  | _, _, .cons h t => .cons (k.dp h) (k.dpAll t)
end
/-! ### tables of code objects -/
def Tb (T : List Addr) (H : Hp) : Prop := ∀ p ∈ T, GxR.TabG H p
/-- the tables may have grown, all else is as it was -/
def Grw (T : List Addr) (H H' : Hp) : Prop := Tb T H' ∧ ∀ b, b ∉ T → H' b = H b
theorem Grw.refl {T : List Addr} {H : Hp} (t : Tb T H) : Grw T H H := ⟨t, fun _ _ => rfl⟩
theorem Grw.trans {T : List Addr} {H H1 H2 : Hp} (a : Grw T H H1) (b : Grw T H1 H2) : Grw T H H2 := ⟨b.1, fun c h => (b.2 c h).trans (a.2 c h)⟩
theorem Grw.one {T : List Addr} {P : Addr} {H H' : Hp} (t : Tb T H) (hP : P ∈ T) (g : GxR.Tabbed P H H') : Grw T H H' := by
  refine ⟨fun p hp => ?_, fun b hb => g.2 b fun e => hb (e ▸ hP)⟩
  by_cases e : p = P
  · subst e; exact g.1
  · obtain ⟨ps, h1, h2⟩ := t p hp
    exact ⟨ps, (g.2 p e).trans h1, h2⟩
theorem Grw.kd {T : List Addr} {H H' : Hp} (t : Tb T H) (g : Grw T H H') : Kd H H' := fun b o e k => by
  have nb : b ∉ T := fun hb => by
    obtain ⟨ps, h1, _⟩ := t b hb
    rw [h1] at e
    cases e
    rcases k with ⟨xs, k⟩ | ⟨xs, k⟩ | ⟨ob, y, k⟩ <;> cases k
  rw [g.2 b nb]
  exact e
theorem Grw.none {T : List Addr} {H H' : Hp} (g : Grw T H H') {b : Addr} (h : H' b = none) : H b = none := by
  by_cases hb : b ∈ T
  · obtain ⟨ps, h1, _⟩ := g.1 b hb
    rw [h1] at h
    cases h
  · rw [← g.2 b hb]; exact h
theorem Tb.new {T : List Addr} {H : Hp} {p : Addr} {o : HO} (t : Tb T H) (n : H p = none) : Tb T (upd H p o) := fun q hq => by
  obtain ⟨ps, h1, h2⟩ := t q hq
  exact ⟨ps, by rw [upd_ne (ne_of_none h1 n)]; exact h1, h2⟩
theorem Tb.over {T : List Addr} {H : Hp} {p : Addr} {o u : HO} (t : Tb T H) (e : H p = some u) (hu : ∀ ps, u ≠ .tbl ps) : Tb T (upd H p o) := fun q hq => by
  obtain ⟨ps, h1, h2⟩ := t q hq
  have nq : q ≠ p := fun z => by
    rw [z, e] at h1
    exact hu ps (Option.some.inj h1)
  exact ⟨ps, by rw [upd_ne nq]; exact h1, h2⟩
/-! ### what kind a thing is -/
def tyN : PyData → String
  | .none => "NoneType"
  | .bool _ => "bool"
  | .int _ => "int"
  | .str _ => "str"
  | .list _ => "list"
  | .tuple _ => "tuple"
  | .dict _ => "dict"
theorem tyX {K : PySem.W.Frag} {H : Hp} {x : V} {d : PyData} (h : Dp K H x d) : TyX K H x (.type (tyN d)) := by
  cases h with
  | non => exact .base .non
  | bl b => exact .base (.bl b)
  | int i => exact .base (.int i)
  | str z => exact .base (.str z)
  | lst h1 _ =>
    rcases h1 with (h1 | ⟨o, h1⟩) | ⟨o, its, n, h1, h2, _⟩
    · exact .base (.lst h1)
    · exact .base (.frz h1)
    · exact .kList h1 h2
  | tup h1 _ =>
    rcases h1 with (h1 | ⟨o, h1⟩) | ⟨o, its, n, h1, h2, _⟩
    · exact .base (.tup h1)
    · exact .fTuple h1
    · exact .kTuple h1 h2
def isI : PyData → Bool | .int _ => true | .bool _ => true | _ => false
def isB : PyData → Bool | .bool _ => true | _ => false
def isS : PyData → Bool | .str _ => true | _ => false
def isT : PyData → Bool | .tuple _ => true | _ => false
theorem kitI : ∀ d : PyData, kitB (tyN d) "int" = some (isI d)
  | .none => (by decide +kernel : kitB "NoneType" "int" = some false)
  | .bool _ => (by decide +kernel : kitB "bool" "int" = some true)
  | .int _ => (by decide +kernel : kitB "int" "int" = some true)
  | .str _ => (by decide +kernel : kitB "str" "int" = some false)
  | .list _ => (by decide +kernel : kitB "list" "int" = some false)
  | .tuple _ => (by decide +kernel : kitB "tuple" "int" = some false)
  | .dict _ => (by decide +kernel : kitB "dict" "int" = some false)
theorem kitBo : ∀ d : PyData, kitB (tyN d) "bool" = some (isB d)
  | .none => (by decide +kernel : kitB "NoneType" "bool" = some false)
  | .bool _ => (by decide +kernel : kitB "bool" "bool" = some true)
  | .int _ => (by decide +kernel : kitB "int" "bool" = some false)
  | .str _ => (by decide +kernel : kitB "str" "bool" = some false)
  | .list _ => (by decide +kernel : kitB "list" "bool" = some false)
  | .tuple _ => (by decide +kernel : kitB "tuple" "bool" = some false)
  | .dict _ => (by decide +kernel : kitB "dict" "bool" = some false)
theorem kitS : ∀ d : PyData, kitB (tyN d) "str" = some (isS d)
  | .none => (by decide +kernel : kitB "NoneType" "str" = some false)
  | .bool _ => (by decide +kernel : kitB "bool" "str" = some false)
  | .int _ => (by decide +kernel : kitB "int" "str" = some false)
  | .str _ => (by decide +kernel : kitB "str" "str" = some true)
  | .list _ => (by decide +kernel : kitB "list" "str" = some false)
  | .tuple _ => (by decide +kernel : kitB "tuple" "str" = some false)
  | .dict _ => (by decide +kernel : kitB "dict" "str" = some false)
theorem kitT : ∀ d : PyData, kitB (tyN d) "tuple" = some (isT d)
  | .none => (by decide +kernel : kitB "NoneType" "tuple" = some false)
  | .bool _ => (by decide +kernel : kitB "bool" "tuple" = some false)
  | .int _ => (by decide +kernel : kitB "int" "tuple" = some false)
  | .str _ => (by decide +kernel : kitB "str" "tuple" = some false)
  | .list _ => (by decide +kernel : kitB "list" "tuple" = some false)
  | .tuple _ => (by decide +kernel : kitB "tuple" "tuple" = some true)
  | .dict _ => (by decide +kernel : kitB "dict" "tuple" = some false)
/-- isinstance(x, T) -/
theorem isi_ok {K : PySem.W.Frag} {H : Hp} {x : V} {d : PyData} {n : String} {b : Bool} {Q : VK} (h : Dp K H x d) (k : kitB (tyN d) n = some b) (q : Q (.bl b) H) : rIsi K [x, .ty n] H Q :=
  ⟨x, .ty n, _, _, b, rfl, .ty n, tyX h, kit_ty k, q⟩
end Mw

namespace Mw
open PySem PySem.Spec PyProof.Rows L2
/-! ### all over a text's signs -/
theorem wipe_set (σ : L2.St) (i : Nat) (v : Option V) : wipe ((wipe σ [i]).set i v) [i] = wipe σ [i] := by
  show ((σ.set i none).set i v).set i none = σ.set i none
  rw [List.set_set, List.set_set]
theorem take_all_succ {l : List Nat} {j c : Nat} {pb : Nat → Bool} (h : l[j]? = some c) (a : (l.take j).all pb = true) (b : pb c = true) : (l.take (j + 1)).all pb = true := by
  rw [List.take_add_one, h, List.all_append, a]
  simpa using b
theorem all_text {x : Str} {i : Nat} {te : TE} {σ : L2.St} {H : Hp} {Q : VK} (Pv : Hp → Prop) (pb : Nat → Bool) (h0 : Pv H)
    (step : ∀ c H (R : VK), c ∈ x.cps.toList → Pv H → (∀ H', Pv H' → R (.bl (pb c)) H') → te ((wipe σ [i]).set i (some (.str ⟨#[c]⟩))) H R) (hq : ∀ H, Pv H → Q (.bl (x.cps.toList.all pb)) H) :
    ∃ W : Nat → Nat → Unit → Hp → Prop, (∃ m, W 0 m () H) ∧ turns (Its x) (gName i) tYes te [i] (stpA true) (fun _ y H => y = .bl false ∧ Q (.bl false) H) (fun _ H => Q (.bl true) H) σ W := by
  have sz : x.cps.size = x.cps.toList.length := by simp
  refine ⟨fun j m _ H => j + m = x.cps.size ∧ Pv H ∧ (x.cps.toList.take j).all pb = true, ⟨x.cps.size, by omega, h0, by simp⟩, fun j m a H w => ?_⟩
  obtain ⟨e, pv, al⟩ := w
  by_cases hj : j < x.cps.size
  · refine .inr ⟨hj, fun _ H' => Pv H' ∧ (x.cps.toList.take (j + 1)).all pb = true, fun a' H' n => ⟨m - 1, by omega, by omega, n.1, n.2⟩, fun v H' y => ?_⟩
    obtain ⟨rfl, c, hc, rfl⟩ := y
    have hl : x.cps.toList[j]? = some c := by rw [Array.getElem?_toList]; exact hc
    refine ⟨wipe_set σ i _, ?_⟩
    simp only [tYes, if_true]
    have hm : c ∈ x.cps.toList := List.mem_of_getElem? hl
    refine step c H' _ hm pv fun H2 pv2 => ?_
    cases hb : pb c with
    | true => exact .inr ⟨(), if_pos rfl, pv2, take_all_succ hl al hb⟩
    | false =>
      refine .inl ⟨if_neg (by simp), rfl, ?_⟩
      have := hq H2 pv2
      have fa : x.cps.toList.all pb = false := by
        rw [List.all_eq_false]
        exact ⟨c, hm, by simp [hb]⟩
      rw [fa] at this
      exact this
  · refine .inl ⟨show x.cps.size ≤ j by omega, ?_⟩
    have := hq H pv
    rw [List.take_of_length_le (by omega)] at al
    rw [al] at this
    exact this
end Mw

namespace Mw
open PySem PySem.Spec PyProof.Rows L2
/-! ### the feed of a law: a dict with a list of cells and three numbers -/
abbrev kC : Key := Sum.inr "cells"
abbrev kA : Key := Sum.inr "at"
abbrev kL : Key := Sum.inr "left"
abbrev kN : Key := Sum.inr "count"
structure FeedK (kvs : List (Key × V)) (C : Addr) : Prop where
  cells : valV kvs kC = some (.ref C)
  at_ : ∃ n : Int, valV kvs kA = some (.int n) ∧ 0 ≤ n
  left : ∃ n : Int, valV kvs kL = some (.int n)
  count : ∃ n : Int, valV kvs kN = some (.int n)
  len : kvs.length ≤ 100
theorem putK_len {kvs : List (Key × V)} {k : Key} {v x : V} (h : valV kvs k = some x) : (putK kvs k v).length = kvs.length := by
  unfold putK
  rw [valV_any, h]
  simp
theorem kCA : ¬ kC = kA := by decide +kernel
theorem kCL : ¬ kC = kL := by decide +kernel
theorem kCN : ¬ kC = kN := by decide +kernel
theorem kAL : ¬ kA = kL := by decide +kernel
theorem kAN : ¬ kA = kN := by decide +kernel
theorem kLN : ¬ kL = kN := by decide +kernel
theorem FeedK.putN {kvs : List (Key × V)} {C : Addr} {n : Int} (f : FeedK kvs C) : FeedK (putK kvs kN (.int n)) C := by
  obtain ⟨c, hc⟩ := f.count
  refine ⟨by rw [valV_put, if_neg kCN]; exact f.cells, by rw [valV_put, if_neg kAN]; exact f.at_, by rw [valV_put, if_neg kLN]; exact f.left, ⟨n, by rw [valV_put, if_pos rfl]⟩, by rw [putK_len hc]; exact f.len⟩
theorem FeedK.putL {kvs : List (Key × V)} {C : Addr} {n : Int} (f : FeedK kvs C) : FeedK (putK kvs kL (.int n)) C := by
  obtain ⟨c, hc⟩ := f.left
  refine ⟨by rw [valV_put, if_neg kCL]; exact f.cells, by rw [valV_put, if_neg kAL]; exact f.at_, ⟨n, by rw [valV_put, if_pos rfl]⟩, by rw [valV_put, if_neg (fun e => kLN e.symm)]; exact f.count, by rw [putK_len hc]; exact f.len⟩
theorem FeedK.putA {kvs : List (Key × V)} {C : Addr} {n : Int} (f : FeedK kvs C) (hn : 0 ≤ n) : FeedK (putK kvs kA (.int n)) C := by
  obtain ⟨c, hc, _⟩ := f.at_
  refine ⟨by rw [valV_put, if_neg kCA]; exact f.cells, ⟨n, by rw [valV_put, if_pos rfl], hn⟩, by rw [valV_put, if_neg (fun e => kAL e.symm)]; exact f.left, by rw [valV_put, if_neg (fun e => kAN e.symm)]; exact f.count, by rw [putK_len hc]; exact f.len⟩
structure Fd (F C : Addr) (ns : List Int) (H : Hp) : Prop where
  ex : ∃ kvs, H F = some (.dK kvs) ∧ FeedK kvs C
  cl : H C = some (.lst (ns.map V.int))
/-- all but F is as it was (there may be more) -/
def Ev (F : Addr) (H H' : Hp) : Prop := ∀ b o, H b = some o → b ≠ F → H' b = some o
theorem Ev.refl (F : Addr) (H : Hp) : Ev F H H := fun _ _ e _ => e
theorem Ev.trans {F : Addr} {H H1 H2 : Hp} (a : Ev F H H1) (b : Ev F H1 H2) : Ev F H H2 := fun c o e n => b c o (a c o e n) n
theorem Ev.new {F p : Addr} {H : Hp} {o : HO} (n : H p = none) : Ev F H (upd H p o) := fun b u e _ => by rw [upd_ne (ne_of_none e n)]; exact e
theorem Ev.own {F : Addr} {H : Hp} {o : HO} : Ev F H (upd H F o) := fun b u e n => by rw [upd_ne n]; exact e
theorem Ev.put {F p q : Addr} {H H' : Hp} {o : HO} (a : Ev F H H') (n : H p = none) : Ev F H (upd H' p o) := fun b u e nb => by rw [upd_ne (ne_of_none e n)]; exact a b u e nb
theorem Ev.kd {F C : Addr} {ns : List Int} {H H' : Hp} (f : Fd F C ns H) (e : Ev F H H') : Kd H H' := fun b o h k => by
  refine e b o h fun z => ?_
  obtain ⟨kvs, hF, _⟩ := f.ex
  rw [z, hF] at h
  cases h
  rcases k with ⟨xs, k⟩ | ⟨xs, k⟩ | ⟨ob, y, k⟩ <;> cases k
theorem Ev.tb {F C : Addr} {ns : List Int} {T : List Addr} {H H' : Hp} (f : Fd F C ns H) (e : Ev F H H') (t : Tb T H) : Tb T H' := fun p hp => by
  obtain ⟨ps, h1, h2⟩ := t p hp
  refine ⟨ps, e p _ h1 fun z => ?_, h2⟩
  obtain ⟨kvs, hF, _⟩ := f.ex
  rw [z, hF] at h1
  cases h1
theorem Ev.free {F C : Addr} {ns : List Int} {H H' : Hp} (f' : Fd F C ns H') (e : Ev F H H') {p : Addr} (n : H' p = none) : H p = none := by
  cases h : H p with
  | none => rfl
  | some o =>
    obtain ⟨kvs, hF, _⟩ := f'.ex
    have np : p ≠ F := fun z => by
      rw [z, hF] at n
      cases n
    rw [e p o h np] at n
    cases n
theorem Fd.new {F C p : Addr} {ns : List Int} {H : Hp} {o : HO} (f : Fd F C ns H) (n : H p = none) : Fd F C ns (upd H p o) := by
  obtain ⟨kvs, hF, k⟩ := f.ex
  exact ⟨⟨kvs, by rw [upd_ne (ne_of_none hF n)]; exact hF, k⟩, by rw [upd_ne (ne_of_none f.cl n)]; exact f.cl⟩
theorem Fd.over {F C p : Addr} {ns : List Int} {H : Hp} {o u : HO} (f : Fd F C ns H) (e : H p = some u) (n1 : p ≠ F) (n2 : p ≠ C) : Fd F C ns (upd H p o) := by
  obtain ⟨kvs, hF, k⟩ := f.ex
  exact ⟨⟨kvs, by rw [upd_ne (Ne.symm n1)]; exact hF, k⟩, by rw [upd_ne (Ne.symm n2)]; exact f.cl⟩
theorem Fd.ne {F C : Addr} {ns : List Int} {H : Hp} (f : Fd F C ns H) : C ≠ F := by
  obtain ⟨kvs, hF, _⟩ := f.ex
  exact ne_of f.cl hF (by intro z; cases z)
theorem Fd.put {F C : Addr} {ns : List Int} {H : Hp} {kvs : List (Key × V)} (f : Fd F C ns H) (k : FeedK kvs C) : Fd F C ns (upd H F (.dK kvs)) :=
  ⟨⟨kvs, upd_same, k⟩, by rw [upd_ne f.ne]; exact f.cl⟩
theorem Fd.grw {F C : Addr} {ns : List Int} {T : List Addr} {H H' : Hp} (f : Fd F C ns H) (t : Tb T H) (g : Grw T H H') : Fd F C ns H' := by
  obtain ⟨kvs, hF, k⟩ := f.ex
  have n1 : F ∉ T := fun h => by
    obtain ⟨ps, h1, _⟩ := t F h
    rw [hF] at h1
    cases h1
  have n2 : C ∉ T := fun h => by
    obtain ⟨ps, h1, _⟩ := t C h
    rw [f.cl] at h1
    cases h1
  exact ⟨⟨kvs, by rw [g.2 F n1]; exact hF, k⟩, by rw [g.2 C n2]; exact f.cl⟩
theorem dpInts {K : PySem.W.Frag} {H : Hp} : ∀ ns : List Int, DpAll K H (ns.map V.int) (ns.map PyData.int)
  | [] => .nil
  | n :: r => .cons (.int n) (dpInts r)
theorem shInts : ∀ ns : List Int, PyData.canLayAll0 (ns.map PyData.int) = true
  | [] => by simp [PyData.canLayAll0]
  | n :: r => by simp [PyData.canLayAll0, PyData.canLay0, shInts r]
theorem dpthInts : ∀ ns : List Int, PyData.depthAll (ns.map PyData.int) ≤ 1
  | [] => by simp [PyData.depthAll]
  | n :: r => by
    have h := dpthInts r
    simp [PyData.depthAll, PyData.depth]
    omega
theorem shapedInts (ns : List Int) : SeqAt.shaped (.list (ns.map PyData.int)) = true := by
  show (PyData.canLay0 (.list (ns.map PyData.int)) && decide (PyData.depth (.list (ns.map PyData.int)) ≤ 64)) = true
  rw [Bool.and_eq_true]
  refine ⟨by simp only [PyData.canLay0]; exact shInts ns, decide_eq_true ?_⟩
  have h := dpthInts ns
  simp only [PyData.depth]
  omega
theorem eqvNil (ns : List Int) : PyData.eqv (.list (ns.map PyData.int)) (.list []) = decide (ns = []) := by
  cases ns with
  | nil => simp [PyData.eqv, PyData.eqvAll]
  | cons n r => simp [PyData.eqv, PyData.eqvAll]
/-- a draw -/
def spDraw : Sp := fun vs H Q _ => ∃ (F C : Addr) (ns : List Int) (m : Int), vs = [.ref F, .int m] ∧ 0 < m ∧ m < 1073741824 ∧ ns.length ≤ 63 ∧ Fd F C ns H ∧
  ∀ (r : Int) (H' : Hp), 0 ≤ r → r < m → Fd F C ns H' → Ev F H H' → Q (.int r) H'
def spFeed (K : PySem.W.Frag) : Sp := fun vs H Q _ => ∃ (a : Addr) (ns : List Int), vs = [.ref a] ∧ SqL K H a (ns.map V.int) ∧ ns.length ≤ 63 ∧
  ∀ (F C : Addr) (H' : Hp), H F = none → Fd F C ns H' → Same H H' → Q (.ref F) H'
end Mw

namespace Mw
open PySem PySem.Spec PyProof.Rows L2
/-! ### short texts of plain signs -/
def Asc (n : Nat) (z : Str) : Prop := z.length ≤ n ∧ ∀ c ∈ z.cps.toList, c < 128
theorem Asc.mono {n m : Nat} {z : Str} (a : Asc n z) (h : n ≤ m) : Asc m z := ⟨Nat.le_trans a.1 h, a.2⟩
theorem Asc.len {n : Nat} {z : Str} (a : Asc n z) : z.cps.toList.length ≤ n := by
  have h : z.cps.toList.length = z.length := by simp [Str.length]
  rw [h]; exact a.1
theorem Asc.line {n : Nat} {z : Str} (a : Asc n z) (h : n ≤ 1000000) : z.length ≤ sizeLine := Nat.le_trans a.1 (Nat.le_trans h (by decide))
theorem asc_mk {n : Nat} {l : List Nat} (h : l.length ≤ n) (c : ∀ x ∈ l, x < 128) : Asc n ⟨l.toArray⟩ := ⟨by simpa [Str.length] using h, by simpa using c⟩
theorem asc_one {c : Nat} (h : c < 128) : Asc 1 ⟨#[c]⟩ := ⟨Nat.le_refl _, fun x hx => by
  have : x = c := by simpa using hx
  omega⟩
theorem cl_append (x y : Str) : (x ++ y).cps.toList = x.cps.toList ++ y.cps.toList := TL.tl_append x y
theorem len_append (x y : Str) : (x ++ y).length = x.length + y.length := strLen_append x y
theorem Asc.app {n m : Nat} {x y : Str} (a : Asc n x) (b : Asc m y) : Asc (n + m) (x ++ y) := by
  refine ⟨by rw [len_append]; exact Nat.add_le_add a.1 b.1, fun c hc => ?_⟩
  rw [cl_append] at hc
  rcases List.mem_append.mp hc with h | h
  · exact a.2 c h
  · exact b.2 c h
theorem Asc.cut {n : Nat} {z : Str} (a : Asc n z) (lo hi : Option Int) : Asc n (cutS z lo hi) := by
  refine asc_mk ?_ fun x hx => ?_
  · rw [List.length_take, List.length_drop]
    have := a.len
    omega
  · exact a.2 x (List.mem_of_mem_drop (List.mem_of_mem_take hx))
theorem asc_join : ∀ {ys : List Str} {k : Nat}, (∀ y ∈ ys, Asc k y) → Asc (ys.length * k) (Str.join Str.empty ys)
  | [], k, _ => ⟨Nat.zero_le _, fun c hc => by
      have : c ∈ ([] : List Nat) := hc
      cases this⟩
  | [y], k, h => by
    show Asc (1 * k) y
    rw [Nat.one_mul]
    exact h y (by simp)
  | x :: z :: r, k, h => by
    show Asc ((z :: r).length.succ * k) (x ++ Str.empty ++ Str.join Str.empty (z :: r))
    have h1 := h x (by simp)
    have h2 := asc_join (ys := z :: r) (k := k) fun y hy => h y (List.mem_cons_of_mem _ hy)
    have h3 : Asc 0 Str.empty := ⟨Nat.le_refl _, fun c hc => by
      have : c ∈ ([] : List Nat) := hc
      cases this⟩
    exact ((h1.app h3).app h2).mono (by rw [Nat.succ_mul]; omega)
theorem asc_of {s : String} {n : Nat} (h : ((Str.ofString s).length ≤ n && (Str.ofString s).cps.toList.all fun c => decide (c < 128)) = true) : Asc n (Str.ofString s) := by
  rw [Bool.and_eq_true] at h
  exact ⟨of_decide_eq_true h.1, fun c hc => of_decide_eq_true (List.all_eq_true.mp h.2 c hc)⟩
/-- a sign of a text at an open place -/
theorem sign_at {n : Nat} {z : Str} (a : Asc n z) {r : Int} (h0 : 0 ≤ r) (h1 : r < (z.length : Int)) : ∃ c, atI z.cps.toList r = some c ∧ c < 128 := by
  obtain ⟨j, rfl⟩ : ∃ j : Nat, r = (j : Int) := ⟨r.toNat, (Int.toNat_of_nonneg h0).symm⟩
  have hl : z.cps.toList.length = z.length := by simp [Str.length]
  have hj : j < z.cps.toList.length := by omega
  exact ⟨z.cps.toList[j], atI_nat (List.getElem?_eq_getElem hj), a.2 _ (List.getElem_mem hj)⟩
/-- an item of a list at an open place -/
theorem val_at {xs : List V} {r : Int} (h0 : 0 ≤ r) (h1 : r < (xs.length : Int)) : ∃ v, atI xs r = some v ∧ v ∈ xs ∧ xs[r.toNat]? = some v := by
  obtain ⟨j, rfl⟩ : ∃ j : Nat, r = (j : Int) := ⟨r.toNat, (Int.toNat_of_nonneg h0).symm⟩
  have hj : j < xs.length := by omega
  exact ⟨xs[j], atI_nat (List.getElem?_eq_getElem hj), List.getElem_mem hj, by simp [List.getElem?_eq_getElem hj]⟩
end Mw

namespace Mw
open PySem PySem.Spec PyProof.Rows L2
/-! ### t[::-1], t a tuple -/
theorem places_rev (n : Nat) : Builtin.Slice.slicePlaces ((n : Int) - 1) (-1) (-1) = n := by
  unfold Builtin.Slice.slicePlaces
  rw [if_neg (by decide)]
  by_cases h : (n : Int) - 1 > -1
  · rw [if_pos h, show (-(-1 : Int)) = 1 by decide, Int.ediv_one]
    omega
  · rw [if_neg h]
    omega
theorem fm_congr {α β : Type} {f g : α → Option β} : ∀ {l : List α}, (∀ a ∈ l, f a = g a) → l.filterMap f = l.filterMap g
  | [], _ => rfl
  | a :: l, h => by
    rw [List.filterMap_cons, List.filterMap_cons, h a (by simp), fm_congr fun b hb => h b (List.mem_cons_of_mem _ hb)]
theorem pick_rev (xs : Array Value) : ((List.range xs.size).filterMap fun (k : Nat) => xs[((xs.size : Int) - 1 + (k : Int) * (-1)).toNat]?).toArray = xs.toList.reverse.toArray := by
  have e : (List.range xs.size).filterMap (fun (k : Nat) => xs[((xs.size : Int) - 1 + (k : Int) * (-1)).toNat]?) = ((List.range xs.size).map fun k => xs.size - 1 - k).filterMap (xs[·]?) := by
    rw [List.filterMap_map]
    refine fm_congr fun k hk => ?_
    have := List.mem_range.mp hk
    have q : ((xs.size : Int) - 1 + (k : Int) * (-1)).toNat = xs.size - 1 - k := by omega
    rw [q]
    rfl
  rw [e, PySem.W.krv_range, List.filterMap_reverse, PySem.W.krv_all]
section
variable {prog : Program} {w : World} {A : Around} {E : Value → Shared → Prop} {s : Shared}
theorem applied_rev {sl : Addr} {n : Nat} {tk : Tok} {Q : Int × Int × Nat → Shared → Prop} (hs : s.heap.IsSliceOf sl .none .none (.int (-1) tk)) (h : Q ((n : Int) - 1, -1, n) s) :
    wpAny (model prog w) A (Builtin.Slice.sliceApplied (.ref sl) (pure (n : Int))) Q E s := by
  obtain ⟨os, hos, hcs, hds⟩ := id hs
  unfold Builtin.Slice.sliceApplied Builtin.Slice.sliceFields
  refine wpAny_bind (wpAny_bind (wpAny_field hos hds (x := .none) rfl (wpAny_bind (wpAny_field hos hds (x := .none) rfl (wpAny_bind (wpAny_field hos hds (x := .int (-1) tk) rfl (wpAny_pure ?_)))))))
  refine wpAny_bind (slicePart_int ?_)
  show wpAny _ _ (if ((-1 : Int) == 0) = true then _ else _) _ _ s
  rw [if_neg (by decide)]
  refine wpAny_bind (slicePart_none (wpAny_bind (slicePart_none (wpAny_bind (wpAny_pure ?_)))))
  show wpAny _ _ (pure ((n : Int) - 1, (-1 : Int), Builtin.Slice.slicePlaces ((n : Int) - 1) (-1) (-1))) _ _ s
  rw [places_rev]
  exact wpAny_pure h
theorem getItem_rev {t sl : Addr} {items : Array Value} {tk : Tok} {Q : Value → Shared → Prop} (ht : IsTup s.heap t items) (hs : s.heap.IsSliceOf sl .none .none (.int (-1) tk))
    (h : Q (.ref s.heap.objs.size) { s with heap := s.heap.push { cls := .type "tuple", data := .seq items.toList.reverse.toArray } }) (hz : items.size ≤ sizeLine) :
    wpAny (model prog w) A (getItem (.ref t) (.ref sl)) Q E s := by
  have hok : sizeOk (.seq items.toList.reverse.toArray) := by
    show items.toList.reverse.toArray.size ≤ sizeLine
    rw [List.size_toArray, List.length_reverse, Array.length_toList]
    exact hz
  obtain ⟨os, hos, hcs, hds⟩ := id hs
  unfold getItem
  try with_reducible refine wpAny_holding ?_
  first | refine wpAny_bind (wpAny_pure ?_) | skip
  refine wpAny_bind (wpAny_sequenceKey ht.typeIs (by decide) ?_)
  refine wpAny_bind (wpAny_callSpecial?_slot (name := Str.ofString "__getitem__") ht.typeIs PyProof.Rows.slot_tuple_getitem (wpAny_call_entry PyProof.Rows.slot_tuple_getitem ht.typeIs entry_tuple_getitem ?_ (args_tuple_getitem _ _)))
  show wpAny _ _ (Builtin.Tuple.tupleItemsOf (.ref t) >>= _) _ _ s
  refine wpAny_bind (tupleItemsOf_ ht ?_)
  refine wpAny_bind (wpAny_typeOf (show s.TypeIs (.ref sl) "slice" from ⟨os, hos, hcs⟩) ?_)
  rw [if_pos (by decide)]
  refine wpAny_bind (applied_rev hs ?_)
  show wpAny _ _ (if (((items.size : Int) - 1) == 0 && (-1 : Int) == 1 && items.size == items.size) = true then _ else _) _ _ s
  rw [if_neg (by
    intro q
    rw [Bool.and_eq_true, Bool.and_eq_true] at q
    exact absurd q.1.2 (by decide)), pick_rev]
  first
    | exact wpAny_bind (m := Builtin.Tuple.tupleExact _) (wpAny_newObj_type (wpAny_pure ⟨_, rfl, wpAny_pure h⟩) hok)
    | exact wpAny_bind (m := Builtin.Tuple.tupleExact _) (wpAny_newObj_type (wpAny_bind (wpAny_pure (wpAny_pure ⟨_, rfl, wpAny_pure h⟩))) hok)
    | exact wpAny_bind (wpAny_bind (m := Builtin.Tuple.tupleExact _) (wpAny_newObj_type (wpAny_pure (wpAny_pure ⟨_, rfl, wpAny_pure h⟩)) hok))
    | exact wpAny_bind (wpAny_bind (m := Builtin.Tuple.tupleExact _) (wpAny_newObj_type (wpAny_pure ⟨_, rfl, wpAny_pure h⟩) hok))
end
section
variable {X : Cx}
def tRevT (K : PySem.W.Frag) (te : TE) : TE := fun σ H Q => te σ H fun x H1 => ∃ a xs, x = .ref a ∧ SqT K H1 a xs ∧ ∀ p, H1 p = none → Q (.ref p) (upd H1 p (.tup xs.reverse))
theorem pe_revT {e : Expr} {te : TE} {k : Nat} {p1 p2 p3 pos : Pos} (he : PE X e te) : PE X (.Subscript e (.Slice none none (some (.UnaryOp .USub (.Constant (.int 1) k p1) p2)) p3) pos) (tRevT X.K te) := by
  refine ⟨fun pins s σ H Q I h => ?_⟩
  refine Subscript_ (thn (he.run pins s σ H _ I h) fun v s1 h1 => ?_)
  obtain ⟨x, H1, I1, r1, a, xs, rfl, hx, q⟩ := h1
  cases r1
  have st : PO X (some (.UnaryOp .USub (.Constant (.int 1) k p1) p2)) (tPart (tUn (rU fun i => .int (-i)) (tC (.int 1)))) := po_some (pe_un un_neg pe_int)
  refine wpAny_Slice (thn (po_none.run pins s1 σ H1 (fun o H2 => o = none ∧ H2 = H1) I1 ⟨rfl, rfl⟩) fun vl s2 h2 => ?_)
  obtain ⟨l, H2, I2, pl, rfl, rfl⟩ := h2
  refine thn (po_none.run pins s2 σ H2 (fun o H3 => o = none ∧ H3 = H2) I2 ⟨rfl, rfl⟩) fun vu s3 h3 => ?_
  obtain ⟨u, H3, I3, pu, rfl, rfl⟩ := h3
  refine thn (st.run pins s3 σ H3 (fun o H4 => o = some (-1) ∧ H4 = H3) I3 ⟨1, rfl, -1, rfl, rfl, rfl⟩) fun vs s4 h4 => ?_
  obtain ⟨o, H4, I4, ps, rfl, rfl⟩ := h4
  cases pl
  cases pu
  cases ps
  rename_i tk
  have I5 : Inv X pins σ H4 { s4 with heap := s4.heap.push { cls := .type "slice", data := .fields #[.none, .none, .int (-1) tk] } } := I4.kept (t' := s4.toks) fun b ob z => Heap.get?_push_of_some _ z
  obtain ⟨its, r, ht, hz⟩ := I5.tuple hx
  have hlen := r.length
  show wpAny (model X.prog X.w) X.A (subscriptTail e (.Slice none none (some (.UnaryOp .USub (.Constant (.int 1) k p1) p2)) p3) (.ref a) (.ref s4.heap.objs.size)) (EP X pins σ Q) X.xe { s4 with heap := s4.heap.push { cls := .type "slice", data := .fields #[.none, .none, .int (-1) tk] } }
  refine tail_any (ops := [.ref a, .ref s4.heap.objs.size]) ht.typeIs PyProof.Rows.slot_tuple_getitem.lookup ?_ (by with_unfolding_all rfl)
  refine getItem_rev ht (Heap.IsSliceOf.new _ _ _ _) ?_ (by rw [List.size_toArray]; omega)
  refine ⟨.ref _, _, I5.laid (t' := s4.toks) (o := .tup xs.reverse) (fun b ob z => Heap.get?_push_of_some _ z) (Nat.le_refl _) ?_, rfl, q _ (I5.hok.fresh (Nat.le_refl _))⟩
  exact ⟨by rw [List.length_reverse]; exact hz, _, r.reverse, IsTup.new _ _⟩
end
/-! ### data that can be shown -/
mutual
def wt : PyData → Nat
  | .none => 5
  | .bool _ => 5
  | .int _ => 1921
  | .str x => 10 * x.length + 2
  | .list xs => wtAll xs + 3
  | .tuple xs => wtAll xs + 3
  | .dict _ => 0
def wtAll : List PyData → Nat
  | [] => 0
  | x :: xs => wt x + 2 + wtAll xs
end
mutual
def fine : PyData → Bool
  | .none => true
  | .bool _ => true
  | .int i => decide (i.natAbs.log2 < 1920)
  | .str x => x.cps.toList.all fun c => decide (c < 128)
  | .list xs => fineAll xs
  | .tuple xs => fineAll xs
  | .dict _ => false
def fineAll : List PyData → Bool
  | [] => true
  | x :: xs => fine x && fineAll xs
end
theorem strOk_of {x : Str} (h : (x.cps.toList.all fun c => decide (c < 128)) = true) : PyData.strOk x = true := by
  unfold PyData.strOk
  rw [Array.all_toList.symm, List.all_eq_true]
  intro c hc
  have := of_decide_eq_true (List.all_eq_true.mp h c hc)
  exact decide_eq_true (by omega)
mutual
theorem fine_show : ∀ {d : PyData}, fine d = true → d.showable = true ∧ d.canLay0 = true ∧ d.shown.length ≤ wt d
  | .none, _ => ⟨rfl, rfl, by simp only [PyData.shown, wt]; decide +kernel⟩
  | .bool true, _ => ⟨rfl, rfl, by simp only [PyData.shown, wt]; decide +kernel⟩
  | .bool false, _ => ⟨rfl, rfl, by simp only [PyData.shown, wt]; decide +kernel⟩
  | .int i, h => by
    have h' : i.natAbs.log2 < 1920 := by simpa [fine] using h
    exact ⟨by simpa [PyData.showable] using h', rfl, by simp only [PyData.shown, wt]; exact int_text_len_1921 h'⟩
  | .str x, h => by
    have h' : (x.cps.toList.all fun c => decide (c < 128)) = true := by simpa [fine] using h
    refine ⟨rfl, by simp only [PyData.canLay0]; exact strOk_of h', ?_⟩
    simp only [PyData.shown, wt]
    refine StrLaws.reprText_len x fun c hc => ?_
    have := of_decide_eq_true (List.all_eq_true.mp h' c hc)
    omega
  | .list xs, h => by
    have h' : fineAll xs = true := by simpa [fine] using h
    obtain ⟨a, b, c, e⟩ := fine_showAll h'
    refine ⟨by simp only [PyData.showable]; exact a, by simp only [PyData.canLay0]; exact b, ?_⟩
    simp only [PyData.shown, wt]
    have := listText_len_le (PyData.shownAll xs)
    omega
  | .tuple xs, h => by
    have h' : fineAll xs = true := by simpa [fine] using h
    obtain ⟨a, b, c, e⟩ := fine_showAll h'
    refine ⟨by simp only [PyData.showable]; exact a, by simp only [PyData.canLay0]; exact b, ?_⟩
    simp only [PyData.shown, wt]
    have := tupleText_len_le (PyData.shownAll xs)
    omega
  | .dict _, h => by simp [fine] at h
theorem fine_showAll : ∀ {xs : List PyData}, fineAll xs = true → PyData.showableAll xs = true ∧ PyData.canLayAll0 xs = true ∧ ((PyData.shownAll xs).map (·.length)).sum + 2 * (PyData.shownAll xs).length ≤ wtAll xs ∧ (PyData.shownAll xs).length = xs.length
  | [], _ => ⟨rfl, rfl, by simp [PyData.shownAll, wtAll], rfl⟩
  | x :: xs, h => by
    have h' : fine x = true ∧ fineAll xs = true := by simpa [fineAll] using h
    obtain ⟨a, b, c⟩ := fine_show h'.1
    obtain ⟨a2, b2, c2, e2⟩ := fine_showAll h'.2
    refine ⟨by simp only [PyData.showableAll, a, a2, Bool.and_self], by simp only [PyData.canLayAll0, b, b2, Bool.and_self], ?_, by simp only [PyData.shownAll, List.length_cons, e2]⟩
    simp only [PyData.shownAll, wtAll, List.map_cons, List.sum_cons, List.length_cons]
    omega
end
/-- a thing that can be shown -/
structure Good (d : PyData) : Prop where
  fine : fine d = true
  wt : wt d ≤ 100000
  dp : d.depth ≤ 24
theorem Good.repr {K : PySem.W.Frag} {H : Hp} {x : V} {d : PyData} {Q : VK} (g : Good d) (h : Dp K H x d) (q : Q (.str d.shown) H) : rRepr K [x] H Q := by
  obtain ⟨a, b, c⟩ := fine_show g.fine
  exact ⟨x, d, rfl, h, a, b, Nat.le_trans g.dp (by decide), Nat.le_trans c (Nat.le_trans g.wt (by decide)), q⟩
end Mw

namespace K01
open PySem PySem.Spec PyProof.Rows L2 Mw
def topS (i : Nat) : Stmt := PySem.Challenge.pw_marginwords_k01_kinds.main.body.getD i (.Pass ⟨0, 0, 0, 0⟩)
abbrev sTof : Stmt := topS 3
theorem scTof : FnScope ["many", "thing"] ["many", "thing"] (defScope sTof) := ⟨rfl, rfl, rfl, by decide +kernel, rfl, by decide +kernel, by decide +kernel⟩
abbrev sNum : Stmt := topS 4
abbrev sSml : Stmt := topS 5
abbrev sWrd : Stmt := topS 6
abbrev sLet : Stmt := topS 7
abbrev sNam : Stmt := topS 8
theorem scNum : FnScope ["thing"] ["thing"] (defScope sNum) := ⟨rfl, rfl, rfl, by decide +kernel, rfl, by decide +kernel, by decide +kernel⟩
theorem scSml : FnScope ["sign"] ["sign"] (defScope sSml) := ⟨rfl, rfl, rfl, by decide +kernel, rfl, by decide +kernel, by decide +kernel⟩
theorem scWrd : FnScope ["thing", "sign"] ["thing"] (defScope sWrd) := ⟨rfl, rfl, rfl, by decide +kernel, rfl, by decide +kernel, by decide +kernel⟩
theorem scLet : FnScope ["thing", "sign"] ["thing"] (defScope sLet) := ⟨rfl, rfl, rfl, by decide +kernel, rfl, by decide +kernel, by decide +kernel⟩
theorem scNam : FnScope ["thing"] ["thing"] (defScope sNam) := ⟨rfl, rfl, rfl, by decide +kernel, rfl, by decide +kernel, by decide +kernel⟩
/-! ### what they tell -/
def isNum : PyData → Bool | .int _ => true | _ => false
def small (c : Nat) : Bool := decide (97 ≤ c) && decide (c ≤ 122)
def isWord : PyData → Bool | .str z => (decide (1 ≤ z.length) && decide (z.length ≤ 8)) && z.cps.toList.all small | _ => false
def isLet : PyData → Bool | .str z => (decide (1 ≤ z.length) && decide (z.length ≤ 12)) && z.cps.toList.all (fun c => small c || decide (c = 32)) | _ => false
def intGe1 : PyData → Bool | .int i => decide (1 ≤ i) | _ => false
def isNam2 : List PyData → Bool
  | [a, b] => intGe1 a && isWord b
  | _ => false
def isNam : PyData → Bool | .tuple xs => isNam2 xs | _ => false
theorem isNum_eq (d : PyData) : isNum d = (isI d && !isB d) := by cases d <;> rfl
/-! ### the promises -/
def spNum (K : PySem.W.Frag) : Sp := fun vs H Q _ => ∃ x d, vs = [x] ∧ Dp K H x d ∧ Q (.bl (isNum d)) H
def spSml : Sp := fun vs H Q _ => ∃ c : Nat, vs = [.str ⟨#[c]⟩] ∧ Q (.bl (small c)) H
def short : PyData → Prop | .str z => z.length ≤ 1000 | _ => True
def spWrd (K : PySem.W.Frag) (T : List Addr) : Sp := fun vs H Q _ => ∃ x d, vs = [x] ∧ Dp K H x d ∧ short d ∧ Tb T H ∧ ∀ H', Grw T H H' → Q (.bl (isWord d)) H'
def spLet (K : PySem.W.Frag) (T : List Addr) : Sp := fun vs H Q _ => ∃ x d, vs = [x] ∧ Dp K H x d ∧ short d ∧ Tb T H ∧ ∀ H', Grw T H H' → Q (.bl (isLet d)) H'
structure Txt (mg : Str → Option Value) : Prop where
  isi : mg "isinstance" = none
  int : mg "int" = none
  bool : mg "bool" = none
  str : mg "str" = none
  tup : mg "tuple" = none
  len : mg "len" = none
  all : mg "all" = none
section
variable {P : Program} {w : World} {K : PySem.W.Frag} {mg : Str → Option Value} {base : Heap} {T : List Addr}
theorem ok_num {f c : Addr} {fd : FuncData} {k : Nat} (D : Def K "is_number" sNum f c fd) (t : Txt mg) : FnOk P w K mg base CX0 (k + 1) f fd ["thing"] (spNum K) := by
  refine D.ok scNum (fun vs H Q E h => ?_) (fun A outer s H vs Q E hr h => ?_)
  · obtain ⟨x, d, rfl, _⟩ := h
    rfl
  · obtain ⟨x, d, rfl, hd, q⟩ := h
    refine ⟨_, pss_one (ps_ret (pe_and (pe_callB call_isi (by rfl) t.isi boot_isinstance (pa_cons (pv 0) (pa_cons (pe_bltn (v := .ty "int") (by rfl) t.int PyProof.Rows.boot_int rfl) pa_nil)))
      (pe_one (pe_not (pe_callB call_isi (by rfl) t.isi boot_isinstance (pa_cons (pv 0) (pa_cons (pe_bltn (v := .ty "bool") (by rfl) t.bool (by decide +kernel) rfl) pa_nil))))))), ?_⟩
    refine ⟨x, rfl, x, .ty "int", _, _, isI d, rfl, .ty _, tyX hd, kit_ty (kitI d), isI d, rfl, ?_⟩
    rw [isNum_eq] at q
    cases hi : isI d with
    | false =>
      rw [hi] at q
      exact iteF q
    | true =>
      rw [hi] at q
      refine iteT ?_
      exact ⟨x, rfl, x, .ty "bool", _, _, isB d, rfl, .ty _, tyX hd, kit_ty (kitBo d), isB d, rfl, q⟩
theorem lt1 (a b : Nat) : decide (([a] : List Nat) < [b]) = decide (a < b) := by
  by_cases h : a < b
  · rw [decide_eq_true h]
    exact decide_eq_true (by simp [List.cons_lt_cons_iff, h])
  · rw [decide_eq_false h]
    exact decide_eq_false (by simp [List.cons_lt_cons_iff, h])
theorem ok_sml {f c : Addr} {fd : FuncData} {k : Nat} (D : Def K "is_small" sSml f c fd) : FnOk P w K mg base CX0 (k + 1) f fd ["sign"] spSml := by
  refine D.ok scSml (fun vs H Q E h => ?_) (fun A outer s H vs Q E hr h => ?_)
  · obtain ⟨x, rfl, _⟩ := h
    rfl
  · obtain ⟨x, rfl, q⟩ := h
    refine ⟨_, pss_one (ps_ret (pe_chain op_le_str op_le_str pe_str (pv 0) pe_str)), ?_⟩
    refine ⟨.str ⟨#[x]⟩, rfl, _, _, rfl, rfl, !decide (x < 97), ?_, ?_⟩
    · exact congrArg (fun z => V.bl (!z)) (lt1 x 97)
    · have e97 : decide (97 ≤ x) = !decide (x < 97) := by
        by_cases h : x < 97
        · simp [h]
        · simp [h]; omega
      have e122 : decide (x ≤ 122) = !decide (122 < x) := by
        by_cases h : 122 < x
        · simp [h]
        · simp [h]; omega
      have q' : Q (.bl (!decide (x < 97) && !decide (122 < x))) H := by
        rw [← e97, ← e122]
        exact q
      cases hb : !decide (x < 97) with
      | false =>
        rw [hb] at q'
        exact iteF q'
      | true =>
        rw [hb] at q'
        refine iteT ⟨_, _, rfl, rfl, ?_⟩
        have e : decide ((("z" : Str).cps.toList) < (⟨#[x]⟩ : Str).cps.toList) = decide (122 < x) := lt1 122 x
        rw [e]
        exact q'
end
end K01

namespace K01
open PySem PySem.Spec PyProof.Rows L2 Mw
section
variable {P : Program} {w : World} {K : PySem.W.Frag} {mg : Str → Option Value} {base : Heap} {T : List Addr}
theorem wordD {z : Str} : isWord (.str z) = (decide ((1 : Int) ≤ (z.length : Int)) && (decide ((z.length : Int) ≤ 8) && z.cps.toList.all small)) := by
  show ((decide (1 ≤ z.length) && decide (z.length ≤ 8)) && z.cps.toList.all small) = _
  rw [Bool.and_assoc]
  congr 1
  · exact decide_eq_decide.mpr (by omega)
  · congr 1
    exact decide_eq_decide.mpr (by omega)
theorem letD {z : Str} : isLet (.str z) = (decide ((1 : Int) ≤ (z.length : Int)) && (decide ((z.length : Int) ≤ 12) && z.cps.toList.all (fun c => small c || decide (c = 32)))) := by
  show ((decide (1 ≤ z.length) && decide (z.length ≤ 12)) && z.cps.toList.all _) = _
  rw [Bool.and_assoc]
  congr 1
  · exact decide_eq_decide.mpr (by omega)
  · congr 1
    exact decide_eq_decide.mpr (by omega)
theorem ok_wrd {f c fS cS Pt : Addr} {fd fdS : FuncData} {tk : Tok} (D : Def K "is_word" sWrd f c fd) (t : Txt mg) (DS : Def K "is_small" sSml fS cS fdS) (bS : Binds K fdS ["sign"] []) (gS : mg "is_small" = some (.ref fS))
    (mW : mg "WORD_LENGTH" = some (.int 8 tk)) (TB : GxR.TabB base mg c Pt) (hP : Pt ∈ T) : FnOk P w K mg base CX0 3 f fd ["thing"] (spWrd K T) := by
  have GS : FnOk P w K mg base CX0 1 fS fdS ["sign"] spSml := ok_sml DS
  refine D.ok scWrd (fun vs H Q E h => ?_) (fun A outer s H vs Q E hr h => ?_)
  · obtain ⟨x, d, rfl, _⟩ := h
    rfl
  · obtain ⟨x, d, rfl, hd, hsh, tb, q⟩ := h
    refine ⟨_, pss_cons (ps_if (pt_not (pt_val (pe_callB call_isi (by rfl) t.isi boot_isinstance (pa_cons (pv 0) (pa_cons (pe_bltn (v := .ty "str") (by rfl) t.str PyProof.Rows.boot_str rfl) pa_nil))))) (pss_one (ps_ret pe_bl)) pss_nil)
      (pss_one (ps_ret (pe_and (pe_chain op_le op_le pe_int (pe_callB call_len_str (by rfl) t.len PySem.boot_len (pa_cons (pv 0) pa_nil)) (pe_glob (v := .int 8) (by rfl) mW ⟨_, rfl⟩))
        (pe_one (pe_allG (own := [("sign", 1)]) (g := gName 1) (tt := tYes) hr (by rfl) t.all TB rfl scWrd.nd (pi_str (pv 0))
          ⟨blkOk_by (N := ["thing", "sign"]) (sc := defScope sWrd) (by decide +kernel), by decide +kernel, rfl, rfl, fun v => rfl, fun B s H C code fp ga => pg_name (i := 1) scWrd.nd rfl (.inl rfl) (.inr rfl), fun B s H C code fp ga => pts_nil,
            fun B s H C code fp ga => pe_call GS (ga.room hr) (by rfl) gS DS.kp bS .nil pass0 (pa_cons (pv 1) pa_nil)⟩))))), ?_⟩
    refine ⟨x, rfl, x, .ty "str", _, _, isS d, rfl, .ty _, tyX hd, kit_ty (kitS d), isS d, rfl, ?_⟩
    have other : isS d = false → isWord d = false := by cases d <;> (intro h; first | rfl | cases h)
    cases hs : isS d with
    | false =>
      refine iteT ?_
      have := q H (Grw.refl tb)
      rw [other hs] at this
      exact this
    | true =>
      refine iteF ?_
      obtain ⟨z, rfl⟩ : ∃ z, d = .str z := by cases d <;> first | exact ⟨_, rfl⟩ | cases hs
      cases hd
      have hz : z.length ≤ sizeLine := by
        have h1 : z.length ≤ 1000 := hsh
        rw [sizeLine_eq]; omega
      refine ⟨.str z, rfl, z, rfl, hz, _, _, rfl, rfl, decide ((1 : Int) ≤ (z.length : Int)), rfl, ?_⟩
      rw [wordD] at q
      cases h1 : decide ((1 : Int) ≤ (z.length : Int)) with
      | false =>
        rw [h1] at q
        refine iteF ⟨false, rfl, iteF (q H (Grw.refl tb))⟩
      | true =>
        rw [h1] at q
        refine iteT ⟨_, _, rfl, rfl, decide ((z.length : Int) ≤ 8), rfl, ?_⟩
        cases h2 : decide ((z.length : Int) ≤ 8) with
        | false =>
          rw [h2] at q
          exact iteF (q H (Grw.refl tb))
        | true =>
          rw [h2] at q
          refine iteT ⟨.str z, rfl, z, rfl, tb _ hP, fun H2 g2 => ?_⟩
          have gr : Grw T H H2 := Grw.one tb hP g2
          exact all_text (Pv := fun H => H = H2) small rfl (fun c H' R _ e k => by
            subst e
            exact ⟨_, rfl, c, rfl, k _ rfl⟩) (fun H' e => by subst e; exact q _ gr)
end
end K01

namespace K01
open PySem PySem.Spec PyProof.Rows L2 Mw
section
variable {P : Program} {w : World} {K : PySem.W.Frag} {mg : Str → Option Value} {base : Heap} {T : List Addr}
theorem str1 (c : Nat) : decide (V.str ⟨#[c]⟩ = V.str (" " : Str)) = decide (c = 32) := by
  have e : ((" " : Str)) = ⟨#[32]⟩ := by decide +kernel
  rw [e]
  refine decide_eq_decide.mpr ⟨fun h => ?_, fun h => by rw [h]⟩
  injection h with h1
  injection h1 with h2
  simpa using h2
theorem ok_let {f c fS cS Pt : Addr} {fd fdS : FuncData} {tk : Tok} (D : Def K "is_letters" sLet f c fd) (t : Txt mg) (DS : Def K "is_small" sSml fS cS fdS) (bS : Binds K fdS ["sign"] []) (gS : mg "is_small" = some (.ref fS))
    (mW : mg "LETTERS_LENGTH" = some (.int 12 tk)) (TB : GxR.TabB base mg c Pt) (hP : Pt ∈ T) : FnOk P w K mg base CX0 3 f fd ["thing"] (spLet K T) := by
  have GS : FnOk P w K mg base CX0 1 fS fdS ["sign"] spSml := ok_sml DS
  refine D.ok scLet (fun vs H Q E h => ?_) (fun A outer s H vs Q E hr h => ?_)
  · obtain ⟨x, d, rfl, _⟩ := h
    rfl
  · obtain ⟨x, d, rfl, hd, hsh, tb, q⟩ := h
    refine ⟨_, pss_cons (ps_if (pt_not (pt_val (pe_callB call_isi (by rfl) t.isi boot_isinstance (pa_cons (pv 0) (pa_cons (pe_bltn (v := .ty "str") (by rfl) t.str PyProof.Rows.boot_str rfl) pa_nil))))) (pss_one (ps_ret pe_bl)) pss_nil)
      (pss_one (ps_ret (pe_and (pe_chain op_le op_le pe_int (pe_callB call_len_str (by rfl) t.len PySem.boot_len (pa_cons (pv 0) pa_nil)) (pe_glob (v := .int 12) (by rfl) mW ⟨_, rfl⟩))
        (pe_one (pe_allG (own := [("sign", 1)]) (g := gName 1) (tt := tYes) hr (by rfl) t.all TB rfl scLet.nd (pi_str (pv 0))
          ⟨blkOk_by (N := ["thing", "sign"]) (sc := defScope sLet) (by decide +kernel), by decide +kernel, rfl, rfl, fun v => rfl, fun B s H C code fp ga => pg_name (i := 1) scLet.nd rfl (.inl rfl) (.inr rfl), fun B s H C code fp ga => pts_nil,
            fun B s H C code fp ga => pe_or (pe_call GS (ga.room hr) (by rfl) gS DS.kp bS .nil pass0 (pa_cons (pv 1) pa_nil)) (pe_one (pe_cmpR op_eq (pv 1) pe_str (nomark _)))⟩))))), ?_⟩
    refine ⟨x, rfl, x, .ty "str", _, _, isS d, rfl, .ty _, tyX hd, kit_ty (kitS d), isS d, rfl, ?_⟩
    have other : isS d = false → isLet d = false := by cases d <;> (intro h; first | rfl | cases h)
    cases hs : isS d with
    | false =>
      refine iteT ?_
      have := q H (Grw.refl tb)
      rw [other hs] at this
      exact this
    | true =>
      refine iteF ?_
      obtain ⟨z, rfl⟩ : ∃ z, d = .str z := by cases d <;> first | exact ⟨_, rfl⟩ | cases hs
      cases hd
      have hz : z.length ≤ sizeLine := by
        have h1 : z.length ≤ 1000 := hsh
        rw [sizeLine_eq]; omega
      refine ⟨.str z, rfl, z, rfl, hz, _, _, rfl, rfl, decide ((1 : Int) ≤ (z.length : Int)), rfl, ?_⟩
      rw [letD] at q
      cases h1 : decide ((1 : Int) ≤ (z.length : Int)) with
      | false =>
        rw [h1] at q
        refine iteF ⟨false, rfl, iteF (q H (Grw.refl tb))⟩
      | true =>
        rw [h1] at q
        refine iteT ⟨_, _, rfl, rfl, decide ((z.length : Int) ≤ 12), rfl, ?_⟩
        cases h2 : decide ((z.length : Int) ≤ 12) with
        | false =>
          rw [h2] at q
          exact iteF (q H (Grw.refl tb))
        | true =>
          rw [h2] at q
          refine iteT ⟨.str z, rfl, z, rfl, tb _ hP, fun H2 g2 => ?_⟩
          have gr : Grw T H H2 := Grw.one tb hP g2
          exact all_text (Pv := fun H => H = H2) (fun c => small c || decide (c = 32)) rfl (fun c H' R _ e k => by
            subst e
            have k' := k _ rfl
            refine ⟨_, rfl, c, rfl, small c, rfl, ?_⟩
            cases hc : small c with
            | true =>
              rw [hc] at k'
              exact iteT k'
            | false =>
              rw [hc] at k'
              refine iteF ⟨_, rfl, rfl, ?_⟩
              rw [str1]
              exact k') (fun H' e => by subst e; exact q _ gr)
theorem dpLen {K : PySem.W.Frag} {H : Hp} : ∀ {xs : List V} {ds : List PyData}, DpAll K H xs ds → xs.length = ds.length
  | _, _, .nil => rfl
  | _, _, .cons _ t => by rw [List.length_cons, List.length_cons, dpLen t]
def sh2 (d : PyData) : Prop := short d ∧ ∀ xs, d = .tuple xs → ∀ y ∈ xs, short y
def spNam (K : PySem.W.Frag) (T : List Addr) : Sp := fun vs H Q _ => ∃ x d, vs = [x] ∧ Dp K H x d ∧ sh2 d ∧ Tb T H ∧ ∀ H', Grw T H H' → Q (.bl (isNam d)) H'
def isTof (n : Int) : PyData → Bool
  | .tuple ds => decide ((ds.length : Int) = n)
  | _ => false
def spTof (K : PySem.W.Frag) : Sp := fun vs H Q _ => ∃ n x d, vs = [.int n, x] ∧ Dp K H x d ∧ Q (.bl (isTof n d)) H
theorem ok_tof {f c : Addr} {fd : FuncData} {k : Nat} (D : Def K "is_tuple_of" sTof f c fd) (t : Txt mg) : FnOk P w K mg base CX0 (k + 1) f fd ["many", "thing"] (spTof K) := by
  refine D.ok scTof (fun vs H Q E h => ?_) (fun A outer s H vs Q E hr h => ?_)
  · obtain ⟨n, x, d, rfl, _⟩ := h
    rfl
  · obtain ⟨n, x, d, rfl, hd, q⟩ := h
    refine ⟨_, pss_one (ps_ret (pe_and (pe_callB call_isi (by rfl) t.isi boot_isinstance (pa_cons (pv 1) (pa_cons (pe_bltn (v := .ty "tuple") (by rfl) t.tup (by decide +kernel) rfl) pa_nil)))
      (pe_one (pe_cmpR op_eq (pe_callB call_len_seq (by rfl) t.len PySem.boot_len (pa_cons (pv 1) pa_nil)) (pv 0) (nomark _))))), ?_⟩
    refine ⟨x, rfl, x, .ty "tuple", _, _, isT d, rfl, .ty _, tyX hd, kit_ty (kitT d), isT d, rfl, ?_⟩
    cases hs : isT d with
    | false =>
      have e : isTof n d = false := by cases d <;> first | rfl | cases hs
      rw [e] at q
      exact iteF q
    | true =>
      refine iteT ?_
      obtain ⟨ds, rfl⟩ : ∃ ds, d = .tuple ds := by cases d <;> first | exact ⟨_, rfl⟩ | cases hs
      cases hd with
      | tup sq al =>
        rename_i a xs
        have hlen : xs.length = ds.length := dpLen al
        refine ⟨.ref a, rfl, a, xs, rfl, .inr sq, _, rfl, rfl, ?_⟩
        have q' : Q (.bl (decide ((ds.length : Int) = n))) H := q
        rw [← hlen] at q'
        have e : decide (V.int (xs.length : Int) = V.int n) = decide ((xs.length : Int) = n) := by simp
        rw [e]
        exact q'
theorem ok_nam {f c fN cN fW cW fO cO Pt : Addr} {fd fdN fdW fdO : FuncData} (D : Def K "is_name" sNam f c fd) (t : Txt mg) (DO : Def K "is_tuple_of" sTof fO cO fdO) (bO : Binds K fdO ["many", "thing"] []) (gO : mg "is_tuple_of" = some (.ref fO)) (DN : Def K "is_number" sNum fN cN fdN) (bN : Binds K fdN ["thing"] []) (gN : mg "is_number" = some (.ref fN))
    (kW : PySem.W.keepIn K (.ref fW) = true) (bW : Binds K fdW ["thing"] []) (gW : mg "is_word" = some (.ref fW)) (GW : FnOk P w K mg base CX0 3 fW fdW ["thing"] (spWrd K T)) : FnOk P w K mg base CX0 4 f fd ["thing"] (spNam K T) := by
  have GN : FnOk P w K mg base CX0 1 fN fdN ["thing"] (spNum K) := ok_num DN t
  have GO : FnOk P w K mg base CX0 1 fO fdO ["many", "thing"] (spTof K) := ok_tof DO t
  refine D.ok scNam (fun vs H Q E h => ?_) (fun A outer s H vs Q E hr h => ?_)
  · obtain ⟨x, d, rfl, _⟩ := h
    rfl
  · obtain ⟨x, d, rfl, hd, hsh, tb, q⟩ := h
    have hr1 : Room 1 _ := hr.mono (by decide)
    refine ⟨_, pss_cons (ps_if (pt_not (pt_val (pe_call GO hr1 (by rfl) gO DO.kp bO .nil pass0 (pa_cons pe_int (pa_cons (pv 0) pa_nil))))) (pss_one (ps_ret pe_bl)) pss_nil)
      (pss_one (ps_ret (pe_and (pe_call GN hr1 (by rfl) gN DN.kp bN .nil pass0 (pa_cons (pe_ix ix_tup (pv 0) pe_int (fun _ _ => rfl)) pa_nil))
        (pe_and (pe_cmpR op_ge (pe_ix ix_tup (pv 0) pe_int (fun _ _ => rfl)) pe_int (nomark _))
        (pe_one (pe_call GW hr (by rfl) gW kW bW .nil pass0 (pa_cons (pe_ix ix_tup (pv 0) pe_int (fun _ _ => rfl)) pa_nil))))))), ?_⟩
    refine ⟨x, rfl, 2, x, d, rfl, hd, isTof 2 d, rfl, ?_⟩
    cases hs : isTof 2 d with
    | false =>
      have e : isNam d = false := by
        cases d <;> first | rfl | skip
        rename_i ds
        have hs' : ¬ (ds.length : Int) = 2 := of_decide_eq_false hs
        match ds with
        | [] => rfl
        | [_] => rfl
        | [d0, d1] => exact absurd rfl hs'
        | _ :: _ :: _ :: _ => rfl
      have := q H (Grw.refl tb)
      rw [e] at this
      exact iteT this
    | true =>
      refine iteF ?_
      obtain ⟨ds, rfl⟩ : ∃ ds, d = .tuple ds := by cases d <;> first | exact ⟨_, rfl⟩ | cases hs
      cases hd with
      | tup sq al =>
        rename_i a xs
        have hlen : xs.length = ds.length := dpLen al
        have hl : xs.length = 2 := by
          have := of_decide_eq_true (show decide ((ds.length : Int) = 2) = true from hs)
          omega
        obtain ⟨v0, v1, rfl⟩ : ∃ v0 v1, xs = [v0, v1] := by
          match xs, hl with
          | [v0, v1], _ => exact ⟨v0, v1, rfl⟩
        cases al with
        | cons a0 al =>
          cases al with
          | cons a1 al =>
            cases al
            rename_i d0 d1
            refine ⟨.ref a, rfl, a, _, 0, v0, rfl, rfl, sq, atI_nat (j := 0) rfl, v0, d0, rfl, a0, isNum d0, rfl, ?_⟩
            cases h0 : isNum d0 with
            | false =>
              have e : isNam (.tuple [d0, d1]) = false := by
                cases d0 <;> first | rfl | cases h0
              have := q H (Grw.refl tb)
              rw [e] at this
              exact iteF this
            | true =>
              obtain ⟨i, rfl⟩ : ∃ i, d0 = .int i := by cases d0 <;> first | exact ⟨_, rfl⟩ | cases h0
              cases a0
              refine iteT ⟨.ref a, rfl, a, _, 0, .int i, rfl, rfl, sq, atI_nat (j := 0) rfl, _, _, rfl, rfl, decide (1 ≤ i), rfl, ?_⟩
              have q' : ∀ H', Grw T H H' → Q (.bl (decide (1 ≤ i) && isWord d1)) H' := q
              cases h1 : decide (1 ≤ i) with
              | false =>
                rw [h1] at q'
                exact iteF (q' H (Grw.refl tb))
              | true =>
                rw [h1] at q'
                refine iteT ⟨.ref a, rfl, a, _, 1, v1, rfl, rfl, sq, atI_nat (j := 1) rfl, v1, d1, rfl, a1, hsh.2 _ rfl d1 (by simp), tb, fun H' g => q' H' g⟩
end
end K01

namespace K01
open PySem PySem.Spec PyProof.Rows L2 Mw
abbrev sFeed : Stmt := topS 10
abbrev sDraw : Stmt := topS 11
theorem scFeed : FnScope ["_law_script"] ["_law_script"] (defScope sFeed) := ⟨rfl, rfl, rfl, by decide +kernel, rfl, by decide +kernel, by decide +kernel⟩
theorem scDraw : FnScope ["_law_feed_here", "_law_many", "_law_figure", "_law_at", "_law_cell", "_law_mixed"] ["_law_feed_here", "_law_many"] (defScope sDraw) := ⟨rfl, rfl, rfl, by decide +kernel, rfl, by decide +kernel, by decide +kernel⟩
section
variable {P : Program} {w : World} {K : PySem.W.Frag} {mg : Str → Option Value} {base : Heap}
theorem cut63 (ns : List Int) (h : ns.length ≤ 63) : cutV (ns.map V.int) none (some 63) = ns.map V.int := by
  unfold cutV
  rw [HT.sIx_none, show HT.sIx (ns.map V.int).length (ns.map V.int).length (some 63) = min 63 (ns.map V.int).length from HT.sIx_nat _ _ 63, List.drop_zero, Nat.sub_zero]
  exact List.take_of_length_le (by rw [List.length_map]; omega)
theorem ok_feed {f c : Addr} {fd : FuncData} {k : Nat} (D : Def K "_law_feed" sFeed f c fd) (ml : mg "list" = none) : FnOk P w K mg base CX0 (k + 1) f fd ["_law_script"] (spFeed K) := by
  refine D.ok scFeed (fun vs H Q E h => ?_) (fun A outer s H vs Q E hr h => ?_)
  · obtain ⟨a, ns, rfl, _⟩ := h
    rfl
  · obtain ⟨a, ns, rfl, hS, hl, q⟩ := h
    refine ⟨_, pss_one (ps_ret (pe_disp (pps_cons pe_str (pe_callTy call_list_of (by rfl) ml PyProof.Rows.boot_list (pa_cons (pe_slice sl_list (pv 0) po_none (po_some pe_int)) pa_nil))
      (pps_cons pe_str pe_int (pps_cons pe_str pe_int (pps_cons pe_str pe_int pps_nil)))) rfl rfl (by simp) (by decide))), ?_⟩
    intro F nF
    have s1 : Same H (upd H F (.dK [])) := fun b o e => by rw [upd_ne (ne_of_none e nF)]; exact e
    refine ⟨.ref a, rfl, 63, rfl, a, ns.map V.int, rfl, s1.seq hS, fun c1 nc1 => ?_⟩
    refine ⟨c1, _, rfl, .inl (.inl (.inl upd_same)), fun C nC => ?_⟩
    rw [cut63 ns hl] at nC ⊢
    have nc1F : c1 ≠ F := fun e => by
      rw [e, upd_same] at nc1
      cases nc1
    have nCF : C ≠ F := fun e => by
      rw [e, upd_ne (Ne.symm nc1F), upd_same] at nC
      cases nC
    refine ⟨by rw [upd_ne (Ne.symm nCF), upd_ne (Ne.symm nc1F), upd_same], [(kC, .ref C), (kA, .int 0), (kL, .int 0), (kN, .int 0)], rfl, (show (4 : Nat) ≤ 15 by decide), ?_⟩
    have hk : FeedK (mergeK [] [(kC, V.ref C), (kA, .int 0), (kL, .int 0), (kN, .int 0)]) C := by
      refine ⟨?_, ⟨0, ?_, Int.le_refl _⟩, ⟨0, ?_⟩, ⟨0, ?_⟩, ?_⟩
      · show valV (putK (putK (putK (putK [] kC (.ref C)) kA (.int 0)) kL (.int 0)) kN (.int 0)) kC = _
        rw [valV_put, if_neg kCN, valV_put, if_neg kCL, valV_put, if_neg kCA, valV_put, if_pos rfl]
      · show valV (putK (putK (putK (putK [] kC (.ref C)) kA (.int 0)) kL (.int 0)) kN (.int 0)) kA = _
        rw [valV_put, if_neg kAN, valV_put, if_neg kAL, valV_put, if_pos rfl]
      · show valV (putK (putK (putK (putK [] kC (.ref C)) kA (.int 0)) kL (.int 0)) kN (.int 0)) kL = _
        rw [valV_put, if_neg kLN, valV_put, if_pos rfl]
      · show valV (putK (putK (putK (putK [] kC (.ref C)) kA (.int 0)) kL (.int 0)) kN (.int 0)) kN = _
        rw [valV_put, if_pos rfl]
      · have e4 : (putK (putK (putK (putK ([] : List (Key × V)) kC (.ref C)) kA (.int 0)) kL (.int 0)) kN (.int 0)).length ≤ 4 := by
          have le : ∀ (kvs : List (Key × V)) (k : Key) (v : V), (putK kvs k v).length ≤ kvs.length + 1 := fun kvs k v => by
            unfold putK
            split
            · rw [List.length_map]; omega
            · rw [List.length_append]; exact Nat.le_refl _
          have h1 := le [] kC (.ref C)
          have h2 := le (putK [] kC (.ref C)) kA (.int 0)
          have h3 := le (putK (putK [] kC (.ref C)) kA (.int 0)) kL (.int 0)
          have h4 := le (putK (putK (putK [] kC (.ref C)) kA (.int 0)) kL (.int 0)) kN (.int 0)
          have h0 : ([] : List (Key × V)).length = 0 := rfl
          omega
        exact Nat.le_trans e4 (by decide)
    refine q F C _ nF ⟨⟨_, upd_same, hk⟩, by rw [upd_ne nCF, upd_same]⟩ fun b o e => ?_
    have nb : b ≠ F := ne_of_none e nF
    have nb1 : b ≠ c1 := fun z => by
      rw [← z, upd_ne nb, e] at nc1
      cases nc1
    have nb2 : b ≠ C := fun z => by
      rw [← z, upd_ne nb1, upd_ne nb, e] at nC
      cases nC
    rw [upd_ne nb, upd_ne nb2, upd_ne nb1, upd_ne nb]
    exact e
end
end K01

namespace K01
open PySem PySem.Spec PyProof.Rows L2 Mw
section
variable {P : Program} {w : World} {K : PySem.W.Frag} {mg : Str → Option Value} {base : Heap}
theorem dg {H : Hp} {F : Addr} {kvs : List (Key × V)} {k : Key} {v : V} (h : H F = some (.dK kvs)) (e : valV kvs k = some v) : DGet H F (kV k) (some v) := by
  have z := DGet.k (k := k) h
  rw [e] at z
  exact z
theorem byR {R G : Prop} (main : R → G) (rest : R) : G := main rest
theorem lenPos {ns : List Int} (h : ns ≠ []) : (0 : Int) < ((ns.map V.int).length : Int) := by
  cases ns with
  | nil => exact absurd rfl h
  | cons x r => rw [List.map_cons, List.length_cons]; omega
theorem item_at {ns : List Int} (h : ns ≠ []) (n : Int) : ∃ cell : Int, atI (ns.map V.int) (n % ((ns.map V.int).length : Int)) = some (.int cell) := by
  have hp := lenPos h
  have h1 := Int.emod_nonneg n (show ((ns.map V.int).length : Int) ≠ 0 by omega)
  have h2 := Int.emod_lt_of_pos n hp
  obtain ⟨j, hj⟩ : ∃ j : Nat, n % ((ns.map V.int).length : Int) = (j : Int) := ⟨_, (Int.toNat_of_nonneg h1).symm⟩
  rw [hj] at h2 ⊢
  have hjl : j < ns.length := by rw [List.length_map] at h2; omega
  exact ⟨ns[j], atI_nat (by rw [List.getElem?_map, List.getElem?_eq_getElem hjl]; rfl)⟩
theorem ok_draw {f c : Addr} {fd : FuncData} {k : Nat} (D : Def K "_law_draw" sDraw f c fd) (t : Txt mg) : FnOk P w K mg base CX0 (k + 1) f fd ["_law_feed_here", "_law_many"] spDraw := by
  refine D.ok scDraw (fun vs H Q E h => ?_) (fun A outer s H vs Q E hr h => ?_)
  · obtain ⟨F, C, ns, m, rfl, _⟩ := h
    rfl
  · obtain ⟨F, C, ns, m, rfl, m0, m1, hl, fd, q⟩ := h
    have hu := hu_of hr
    have hu64 := hr.units
    refine ⟨_, (pss_cons (ps_dput hu (pv 0) pe_str (pe_op op_add (pe_dget hu (pv 0) pe_str (fun _ _ => rfl)) pe_int) rfl)
      (pss_cons (ps_if (pt_cmpR op_gt (pe_dget hu (pv 0) pe_str (fun _ _ => rfl)) pe_int (nomark _))
        (pss_cons (ps_set (i := 2) scDraw.nd rfl (by first | exact Or.inl rfl | exact Or.inr rfl) (pe_op op_mod (pe_dget hu (pv 0) pe_str (fun _ _ => rfl)) (pv 1)))
      (pss_cons (ps_dput hu (pv 0) pe_str (pe_op op_fdiv (pe_dget hu (pv 0) pe_str (fun _ _ => rfl)) (pv 1)) rfl)
      (pss_one (ps_ret (pv 2)))))
        pss_nil)
      (pss_cons (ps_set (i := 3) scDraw.nd rfl (by first | exact Or.inl rfl | exact Or.inr rfl) (pe_dget hu (pv 0) pe_str (fun _ _ => rfl)))
      (pss_cons (ps_dput hu (pv 0) pe_str (pe_op op_add (pv 3) pe_int) rfl)
      (pss_cons (ps_set (i := 4) scDraw.nd rfl (by first | exact Or.inl rfl | exact Or.inr rfl) (pe_ifExp (pt_cmpR (show OpR _ _ (rNeD K) from op_neD hu64) (pe_dget hu (pv 0) pe_str (fun _ _ => rfl)) (pe_lst pa_nil) (nomark _)) (pe_ix ix_list (pe_dget hu (pv 0) pe_str (fun _ _ => rfl)) (pe_op op_mod (pv 3) (pe_callB call_len_seq (by rfl) t.len PySem.boot_len (pa_cons (pe_dget hu (pv 0) pe_str (fun _ _ => rfl)) pa_nil))) (fun _ _ => rfl)) pe_int))
      (pss_cons (ps_if (PW.pt (pw_and (pt_cmpR op_ge (pv 4) (pe_op op_pow pe_int pe_int) (nomark _)) (pw_and1 (pt_cmpR op_lt (pv 3) (pe_callB call_len_seq (by rfl) t.len PySem.boot_len (pa_cons (pe_dget hu (pv 0) pe_str (fun _ _ => rfl)) pa_nil)) (nomark _)))))
        (pss_cons (ps_dput hu (pv 0) pe_str (pe_op op_fdiv (pv 4) (pv 1)) rfl)
      (pss_one (ps_ret (pe_op op_mod (pv 4) (pv 1)))))
        pss_nil)
      (pss_cons (ps_set (i := 5) scDraw.nd rfl (by first | exact Or.inl rfl | exact Or.inr rfl) (pe_op op_mod (pe_op op_add (pe_op op_add (pe_op op_mod (pv 4) pe_int) (pe_op op_mul pe_int (pe_dget hu (pv 0) pe_str (fun _ _ => rfl)))) pe_int) pe_int))
      (pss_cons (ps_set (i := 5) scDraw.nd rfl (by first | exact Or.inl rfl | exact Or.inr rfl) (pe_op op_mod (pe_op op_add (pe_op op_add (pe_op op_mul (pv 5) (pv 5)) (pe_op op_mul pe_int (pe_dget hu (pv 0) pe_str (fun _ _ => rfl)))) pe_int) pe_int))
      (pss_one (ps_ret (pe_op op_mod (pe_op op_fdiv (pe_op op_mod (pe_op op_add (pe_op op_mul (pv 5) (pv 5)) (pe_op op_mul pe_int (pv 5))) pe_int) pe_int) (pv 1)))))))))))), ?_⟩
    obtain ⟨kvs, hF, fk⟩ := fd.ex
    obtain ⟨cn, hcn⟩ := fk.count
    -- count
    refine ⟨_, rfl, F, .int cn, rfl, dg (k := kN) hF hcn, _, _, rfl, rfl, _, rfl, F, _, rfl, DPut.k (k := kN) hF (small1000 (by have := fk.len; omega)), ?_⟩
    have fk1 : FeedK (putK kvs kN (.int (cn + 1))) C := fk.putN
    generalize putK kvs kN (.int (cn + 1)) = kvs1 at fk1 ⊢
    have fd1 : Fd F C ns (upd H F (.dK kvs1)) := fd.put fk1
    have ev1 : Ev F H (upd H F (.dK kvs1)) := Ev.own
    have hF1 : (upd H F (.dK kvs1)) F = some (.dK kvs1) := upd_same
    generalize upd H F (.dK kvs1) = H1 at fd1 ev1 hF1 ⊢
    obtain ⟨l, hlf⟩ := fk1.left
    obtain ⟨n, hat, n0⟩ := fk1.at_
    refine ⟨_, rfl, F, .int l, rfl, dg (k := kL) hF1 hlf, _, _, rfl, rfl, _, rfl, ite2 (fun _ => ?_) (fun _ => ?_)⟩
    · -- the figures that are left
      refine ⟨_, rfl, F, .int l, rfl, dg (k := kL) hF1 hlf, _, rfl, _, _, rfl, rfl, m0, ?_⟩
      refine ⟨_, rfl, F, .int l, rfl, dg (k := kL) hF1 hlf, _, rfl, _, _, rfl, rfl, ⟨m0, m1⟩, _, rfl, F, _, rfl, DPut.k (k := kL) hF1 (small1000 (by have := fk1.len; omega)), ?_⟩
      exact ⟨_, rfl, q _ _ (Int.emod_nonneg _ (by omega)) (Int.emod_lt_of_pos _ m0) (fd1.put fk1.putL) (ev1.trans Ev.own)⟩
    · refine ⟨_, rfl, F, .int n, rfl, dg (k := kA) hF1 hat, ?_⟩
      refine ⟨_, rfl, _, _, rfl, rfl, _, rfl, F, _, rfl, DPut.k (k := kA) hF1 (small1000 (by have := fk1.len; omega)), ?_⟩
      have fk2 : FeedK (putK kvs1 kA (.int (n + 1))) C := fk1.putA (by omega)
      generalize putK kvs1 kA (.int (n + 1)) = kvs2 at fk2 ⊢
      have fd2 : Fd F C ns (upd H1 F (.dK kvs2)) := fd1.put fk2
      have ev2 : Ev F H (upd H1 F (.dK kvs2)) := ev1.trans Ev.own
      have hF2 : (upd H1 F (.dK kvs2)) F = some (.dK kvs2) := upd_same
      generalize upd H1 F (.dK kvs2) = H2 at fd2 ev2 hF2 ⊢
      refine ⟨_, rfl, F, .ref C, rfl, dg (k := kC) hF2 fk2.cells, Nat.zero_le _, fun p np => ?_⟩
      have fd3 : Fd F C ns (upd H2 p (.lst [])) := fd2.new np
      have ev3 : Ev F H (upd H2 p (.lst [])) := ev2.trans (Ev.new np)
      have hF3 : (upd H2 p (.lst [])) F = some (.dK kvs2) := by rw [upd_ne (ne_of_none hF2 np)]; exact hF2
      have hp3 : (upd H2 p (.lst [])) p = some (.lst []) := upd_same
      generalize upd H2 p (.lst []) = H3 at fd3 ev3 hF3 hp3 ⊢
      have sq : SqL K H3 C (ns.map V.int) := .inl (.inl fd3.cl)
      refine ⟨.list (ns.map PyData.int), .list [], .lst sq (dpInts ns), .lst (.inl (.inl hp3)) .nil, shapedInts ns, by decide +kernel, _, rfl, ?_⟩
      rw [eqvNil]
      by_cases hns : ns = []
      case' pos =>
        rw [decide_eq_true hns]
        refine iteF ?_
        generalize (3 : Int) = cell
      case' neg =>
        rw [decide_eq_false hns]
        refine iteT ?_
        obtain ⟨cell, hcell⟩ := item_at hns n
        refine ⟨_, rfl, F, .ref C, rfl, dg (k := kC) hF3 fk2.cells, _, rfl, _, rfl, F, .ref C, rfl, dg (k := kC) hF3 fk2.cells, C, _, rfl, .inl sq, _, _, rfl, rfl, lenPos hns, C, _, _, .int cell, rfl, rfl, sq, hcell, ?_⟩
      all_goals
        obtain ⟨cn2, hcn2⟩ := fk2.count
        apply byR
        · intro rest
          refine ⟨_, rfl, _, _, rfl, rfl, ⟨by decide, by decide, by decide⟩, _, _, rfl, rfl, _, rfl, ite2 (fun _ => ?_) (fun _ => iteF rest)⟩
          refine ⟨_, rfl, _, rfl, F, .ref C, rfl, dg (k := kC) hF3 fk2.cells, C, _, rfl, .inl sq, _, _, rfl, rfl, _, rfl, ite2 (fun _ => ?_) (fun _ => rest)⟩
          refine ⟨_, rfl, _, rfl, _, _, rfl, rfl, ⟨m0, m1⟩, _, rfl, F, _, rfl, DPut.k (k := kL) hF3 (small1000 (by have := fk2.len; omega)), ?_⟩
          exact ⟨_, rfl, _, rfl, _, _, rfl, rfl, m0, q _ _ (Int.emod_nonneg _ (by omega)) (Int.emod_lt_of_pos _ m0) (fd3.put fk2.putL) (ev3.trans Ev.own)⟩
        · refine ⟨_, rfl, _, _, rfl, rfl, (by show (0 : Int) < 1000000007; decide), _, rfl, F, .int cn2, rfl, dg (k := kN) hF3 hcn2, _, _, rfl, rfl, .inl ⟨by decide, by decide⟩, _, _, rfl, rfl, _, _, rfl, rfl, _, _, rfl, rfl, (by show (0 : Int) < 2147483629; decide), ?_⟩
          generalize hm1 : (cell % 1000000007 + 40503 * cn2 + 17) % 2147483629 = x1
          have b1 : 0 ≤ x1 ∧ x1 < 2147483629 := by rw [← hm1]; exact ⟨Int.emod_nonneg _ (by decide), Int.emod_lt_of_pos _ (by decide)⟩
          refine ⟨_, rfl, _, rfl, _, _, rfl, rfl, .inl ⟨by omega, by omega⟩, _, rfl, F, .int cn2, rfl, dg (k := kN) hF3 hcn2, _, _, rfl, rfl, .inl ⟨by decide, by decide⟩, _, _, rfl, rfl, _, _, rfl, rfl, _, _, rfl, rfl, (by show (0 : Int) < 2147483587; decide), ?_⟩
          generalize hm2 : (x1 * x1 + 15485863 * cn2 + 1) % 2147483587 = x2
          have b2 : 0 ≤ x2 ∧ x2 < 2147483587 := by rw [← hm2]; exact ⟨Int.emod_nonneg _ (by decide), Int.emod_lt_of_pos _ (by decide)⟩
          exact ⟨_, rfl, _, rfl, _, _, rfl, rfl, .inl ⟨by omega, by omega⟩, _, rfl, _, _, rfl, rfl, .inl ⟨by decide, by decide⟩, _, _, rfl, rfl, _, _, rfl, rfl, (by show (0 : Int) < 2147483549; decide), _, _, rfl, rfl, ⟨by decide, by decide⟩, _, rfl, _, _, rfl, rfl, m0,
            q _ _ (Int.emod_nonneg _ (by omega)) (Int.emod_lt_of_pos _ m0) fd3 ev3⟩
end
end K01

namespace K01
open PySem PySem.Spec PyProof.Rows L2 Mw
abbrev sText : Stmt := topS 12
theorem scText : FnScope ["_law_feed_here", "_law_abc", "_law_marks", "_law_some", "_law_texted", "_law_at", "_law_k"] ["_law_feed_here"] (defScope sText) := ⟨rfl, rfl, rfl, by decide +kernel, rfl, by decide +kernel, by decide +kernel⟩
structure Txt2 (mg : Str → Option Value) : Prop extends Txt mg where
  range : mg "range" = none
  ord : mg "ord" = none
  repr : mg "repr" = none
  lst : mg "list" = none
def spText : Sp := fun vs H Q _ => ∃ (F C : Addr) (ns : List Int), vs = [.ref F] ∧ ns.length ≤ 63 ∧ Fd F C ns H ∧ ∀ (z : Str) (H' : Hp), Asc 30 z → Fd F C ns H' → Ev F H H' → Q (.str z) H'
section
variable {P : Program} {w : World} {K : PySem.W.Frag} {mg : Str → Option Value} {base : Heap}
theorem sum_le_len : ∀ {ys : List Str}, (∀ y ∈ ys, y.length ≤ 1) → (ys.map (·.length)).sum ≤ ys.length
  | [], _ => Nat.le_refl _
  | y :: r, h => by
    have h1 := h y (by simp)
    have h2 := sum_le_len (ys := r) fun z hz => h z (List.mem_cons_of_mem _ hz)
    rw [List.map_cons, List.sum_cons, List.length_cons]
    omega
theorem ok_text {f c fD : Addr} {fd fdD : FuncData} (D : Def K "_law_text" sText f c fd) (t : Txt2 mg) (kD : PySem.W.keepIn K (.ref fD) = true) (bD : Binds K fdD ["_law_feed_here", "_law_many"] []) (gD : mg "_law_draw" = some (.ref fD))
    (GD : FnOk P w K mg base CX0 1 fD fdD ["_law_feed_here", "_law_many"] spDraw) : FnOk P w K mg base CX0 2 f fd ["_law_feed_here"] spText := by
  refine D.ok scText (fun vs H Q E h => ?_) (fun A outer s H vs Q E hr h => ?_)
  · obtain ⟨F, C, ns, rfl, _⟩ := h
    rfl
  · obtain ⟨F, C, ns, rfl, hl, fd, q⟩ := h
    have hr1 : Room 1 _ := hr
    refine ⟨_, (pss_cons (ps_set (i := 1) scText.nd rfl (by first | exact Or.inl rfl | exact Or.inr rfl) pe_str)
      (pss_cons (ps_set (i := 2) scText.nd rfl (by first | exact Or.inl rfl | exact Or.inr rfl) pe_str)
      (pss_cons (ps_set (i := 3) scText.nd rfl (by first | exact Or.inl rfl | exact Or.inr rfl) (pe_ix ix_list (pe_lst (pa_cons (pv 1) (pa_cons (pe_op op_add_str (pv 1) pe_str) pa_nil))) (pe_call GD hr1 (by rfl) gD kD bD .nil pass0 (pa_cons (pv 0) (pa_cons pe_int pa_nil))) (fun _ _ => rfl)))
      (pss_cons (ps_set (i := 4) scText.nd rfl (by first | exact Or.inl rfl | exact Or.inr rfl) (pe_bm PySem.F.plainAttrs_str PySem.F.slot_str_join PySem.F.type_str_join mt_join pe_str (pa_cons (pe_lc (own := [("_law_k", 6)]) (g := gName 6) (tt := tYes) rfl scText.nd (pi_range1 (by rfl) t.range (pa_cons (pe_call GD hr1 (by rfl) gD kD bD .nil pass0 (pa_cons (pv 0) (pa_cons pe_int pa_nil))) pa_nil)) (blkOk_by (N := ["_law_feed_here", "_law_abc", "_law_marks", "_law_some", "_law_texted", "_law_at", "_law_k"]) (sc := defScope sText) (by decide +kernel)) (fun _ _ _ _ _ => (pg_name (i := 6) scText.nd rfl (Or.inl rfl))) (fun _ _ _ _ _ => pts_nil) (fun _ _ _ _ _ => (pe_ix ix_str (pv 3) (pe_call GD hr1 (by rfl) gD kD bD .nil pass0 (pa_cons (pv 0) (pa_cons (pe_callB call_len_str (by rfl) t.len PySem.boot_len (pa_cons (pv 3) pa_nil)) pa_nil))) (fun _ _ => rfl)))) pa_nil)))
      (pss_cons (ps_if (pt_cmpR op_eq (pe_call GD hr1 (by rfl) gD kD bD .nil pass0 (pa_cons (pv 0) (pa_cons pe_int pa_nil))) pe_int (nomark _))
        (pss_cons (ps_set (i := 5) scText.nd rfl (by first | exact Or.inl rfl | exact Or.inr rfl) (pe_call GD hr1 (by rfl) gD kD bD .nil pass0 (pa_cons (pv 0) (pa_cons (pe_op op_add (pe_callB call_len_str (by rfl) t.len PySem.boot_len (pa_cons (pv 4) pa_nil)) pe_int) pa_nil))))
      (pss_one (ps_set (i := 4) scText.nd rfl (by first | exact Or.inl rfl | exact Or.inr rfl) (pe_op op_add_str (pe_op op_add_str (pe_slice sl_str (pv 4) po_none (po_some (pv 5))) (pe_ix ix_str (pv 2) (pe_call GD hr1 (by rfl) gD kD bD .nil pass0 (pa_cons (pv 0) (pa_cons pe_int pa_nil))) (fun _ _ => rfl))) (pe_slice sl_str (pv 4) (po_some (pe_op op_add (pv 5) (pe_call GD hr1 (by rfl) gD kD bD .nil pass0 (pa_cons (pv 0) (pa_cons pe_int pa_nil))))) po_none)))))
        pss_nil)
      (pss_one (ps_ret (pv 4)))))))), ?_⟩
    refine ⟨_, rfl, _, rfl, _, _, rfl, rfl, (by decide +kernel), (by show 2 ≤ sizeLine; decide), fun l nl => ?_⟩
    have fd1 := fd.new (o := .lst [V.str (Str.ofString "abcdefghijklmnopqrstuvwxyz"), V.str (Str.ofString "abcdefghijklmnopqrstuvwxyz" ++ Str.ofString "    ")]) nl
    refine ⟨_, rfl, F, C, ns, 2, rfl, by decide, by decide, hl, fd1, fun r H2 r0 r1 fd2 ev2 => ?_⟩
    have hl2 : H2 l = some (.lst [V.str (Str.ofString "abcdefghijklmnopqrstuvwxyz"), V.str (Str.ofString "abcdefghijklmnopqrstuvwxyz" ++ Str.ofString "    ")]) := ev2 l _ upd_same fun z => by
      obtain ⟨kvs, hF, _⟩ := fd.ex
      rw [z, hF] at nl
      cases nl
    obtain ⟨v, hv, hmem, _⟩ := val_at (xs := [V.str (Str.ofString "abcdefghijklmnopqrstuvwxyz"), V.str (Str.ofString "abcdefghijklmnopqrstuvwxyz" ++ Str.ofString "    ")]) r0 r1
    have hz : ∃ z, v = .str z ∧ Asc 30 z ∧ 0 < z.length := by
      have a1 : Asc 26 (Str.ofString "abcdefghijklmnopqrstuvwxyz") := asc_of (by decide +kernel)
      have a2 : Asc 4 (Str.ofString "    ") := asc_of (by decide +kernel)
      rcases List.mem_cons.mp hmem with h | h
      · exact ⟨_, h, a1.mono (by decide), by decide +kernel⟩
      · rcases List.mem_cons.mp h with h | h
        · exact ⟨_, h, a1.app a2, by rw [len_append]; have : (Str.ofString "abcdefghijklmnopqrstuvwxyz").length = 26 := by decide +kernel
                                     omega⟩
        · cases h
    obtain ⟨z, rfl, az, pz⟩ := hz
    refine ⟨l, _, r, _, rfl, rfl, .inl (.inl hl2), hv, ?_⟩
    have ev0 : Ev F H H2 := (Ev.new nl).trans ev2
    clear hv hmem hl2 ev2 fd1
    -- texted
    refine ⟨rfl, _, rfl, F, C, ns, 14, rfl, by decide, by decide, hl, fd2, fun r3 H3 r30 r31 fd3 ev3 => ⟨r3, rfl, by omega, by omega, fun L nL => ?_⟩⟩
    have ev03 : Ev F H H3 := ev0.trans ev3
    have nL0 : H L = none := Ev.free fd3 ev03 nL
    have LF : L ≠ F := fun e => by
      obtain ⟨kvs, hF, _⟩ := fd3.ex
      rw [e, hF] at nL
      cases nL
    have LC : L ≠ C := fun e => by
      rw [e, fd3.cl] at nL
      cases nL
    refine lc_range (fun i Hc => Fd F C ns Hc ∧ Ev F H Hc ∧ ∃ ys : List Str, Hc L = some (.lst (ys.map V.str)) ∧ ys.length = i ∧ ∀ y ∈ ys, Asc 1 y)
      ⟨fd3.new nL, ev03.trans (Ev.new nL), [], upd_same, rfl, fun y hy => by cases hy⟩ (fun i Hc hi pv => ?_) (fun Hc pv => ?_)
    · obtain ⟨fc, ec, ys, hL, hyl, hya⟩ := pv
      refine ⟨wipe_set _ 6 _, ?_⟩
      simp only [tYes, if_true]
      refine ⟨.str z, rfl, _, rfl, .str z, rfl, z, rfl, az.line (by decide), F, C, ns, (z.length : Int), rfl, by omega, by have := az.1; omega, hl, fc, fun r5 H5 r50 r51 fd5 ev5 => ?_⟩
      obtain ⟨sg, hsg, asg⟩ := sign_at az r50 r51
      have hL5 : H5 L = some (.lst (ys.map V.str)) := ev5 L _ hL LF
      refine ⟨z, r5, sg, rfl, rfl, az.line (by decide), hsg, _, hL5, by rw [List.length_map]; exact small1000 (by omega), ?_⟩
      refine ⟨fd5.over hL5 LF LC, (ec.trans ev5).put (q := L) nL0, ys ++ [⟨#[sg]⟩], ?_, ?_, ?_⟩
      · rw [upd_same, List.map_append]; rfl
      · rw [List.length_append, hyl]; rfl
      · intro y hy
        rcases List.mem_append.mp hy with h | h
        · exact hya y h
        · rw [List.mem_singleton.mp h]; exact asc_one asg
    · obtain ⟨fc, ec, ys, hL, hyl, hya⟩ := pv
      have ys13 : ys.length ≤ 13 := by omega
      have aj : Asc 13 (Str.join Str.empty ys) := (asc_join hya).mono (by omega)
      refine ⟨_, L, ys, rfl, rfl, .inl (.inl (.inl hL)), ?_, ?_⟩
      · have h1 : (ys.map (·.length)).sum ≤ ys.length := sum_le_len fun y hy => (hya y hy).1
        have h2 : (Str.ofString "").length = 0 := by decide +kernel
        rw [h2, Nat.mul_zero]
        omega
      have ejoin : Txt.join (Str.ofString "") ys = Str.join Str.empty ys := by
        rw [TL.join_eq]
        have : Str.ofString "" = Str.empty := by decide +kernel
        rw [this]
      rw [ejoin]
      generalize Str.join Str.empty ys = x at aj
      clear hL hyl hya ejoin nL nL0 LF LC
      -- if draw(..) == 0
      refine ⟨_, rfl, F, C, ns, 2, rfl, by decide, by decide, hl, fc, fun r6 H6 r60 r61 fd6 ev6 => ⟨rfl, _, rfl, ite2 (fun _ => ?_) (fun _ => ?_)⟩⟩
      · refine ⟨_, rfl, .str x, rfl, x, rfl, aj.line (by decide), _, _, rfl, rfl, F, C, ns, _, rfl, by omega, by have := aj.1; omega, hl, fd6, fun r7 H7 r70 r71 fd7 ev7 => ?_⟩
        have am : Asc 100 (Str.ofString " !\"#$&'()*+,-./0123456789:;<=>?@ABCDEFGHIJKLMNOPQRSTUVWXYZ[\\]^_`abcdefghijklmnopqrstuvwxyz{|}~") := asc_of (by decide +kernel)
        have lm : ((Str.ofString " !\"#$&'()*+,-./0123456789:;<=>?@ABCDEFGHIJKLMNOPQRSTUVWXYZ[\\]^_`abcdefghijklmnopqrstuvwxyz{|}~").length : Int) = 94 := by decide +kernel
        refine ⟨.str x, rfl, .int r7, rfl, r7, rfl, x, rfl, aj.line (by decide), _, rfl, _, rfl, F, C, ns, 94, rfl, by decide, by decide, hl, fd7, fun r8 H8 r80 r81 fd8 ev8 => ?_⟩
        obtain ⟨sg, hsg, asg⟩ := sign_at am r80 (by rw [lm]; exact r81)
        have ac1 := aj.cut none (some r7)
        have ac2 := ac1.app (asc_one asg)
        have hz1 : (cutS x none (some r7)).length + (⟨#[sg]⟩ : Str).length ≤ sizeLine := by
          have h1 : (⟨#[sg]⟩ : Str).length = 1 := rfl
          have h2 := ac1.1
          rw [h1, sizeLine_eq]
          omega
        refine ⟨_, r8, sg, rfl, rfl, am.line (by decide), hsg, _, _, rfl, rfl, hz1, ?_⟩
        refine ⟨.str x, rfl, .int r7, rfl, _, rfl, F, C, ns, 2, rfl, by decide, by decide, hl, fd8, fun r9 H9 r90 r91 fd9 ev9 => ?_⟩
        have ac3 := aj.cut (some (r7 + r9)) none
        have hz2 : (cutS x none (some r7) ++ ⟨#[sg]⟩).length + (cutS x (some (r7 + r9)) none).length ≤ sizeLine := by
          have h2 := ac2.1
          have h3 := ac3.1
          rw [sizeLine_eq]
          omega
        refine ⟨_, _, rfl, rfl, _, rfl, x, rfl, aj.line (by decide), _, _, rfl, rfl, hz2, ?_⟩
        exact ⟨_, rfl, q _ H9 ((ac2.app ac3).mono (by decide)) fd9 ((((ec.trans ev6).trans ev7).trans ev8).trans ev9)⟩
      · exact ⟨_, rfl, q x H6 (aj.mono (by decide)) fd6 (ec.trans ev6)⟩
end
end K01

namespace K01
open PySem PySem.Spec PyProof.Rows L2 Mw
abbrev sNL : Stmt := topS 13
theorem scNL : FnScope ["_law_feed_here", "_law_count", "_law_name", "_law_way"] ["_law_feed_here"] (defScope sNL) := ⟨rfl, rfl, rfl, by decide +kernel, rfl, by decide +kernel, by decide +kernel⟩
structure Gd (d : PyData) : Prop where
  good : Good d
  sh : sh2 d
def spNL (K : PySem.W.Frag) : Sp := fun vs H Q _ => ∃ (F C : Addr) (ns : List Int), vs = [.ref F] ∧ ns.length ≤ 63 ∧ Fd F C ns H ∧ ∀ (x : V) (d : PyData) (H' : Hp), Dp K H' x d → Gd d → Fd F C ns H' → Ev F H H' → Q x H'
/-- a flat value and its datum -/
structure Fl (v : V) (d : PyData) : Prop where
  dp : ∀ K H, Dp K H v d
  fine : fine d = true
  wt : wt d ≤ 2000
  depth : d.depth = 0
  sh : short d
  nt : ∀ xs, d ≠ .tuple xs
theorem fl_int {i : Int} (h : i.natAbs.log2 < 1920) : Fl (.int i) (.int i) := ⟨fun _ _ => .int i, by simpa [fine] using h, by simp [wt], rfl, trivial, fun _ z => by cases z⟩
theorem fl_bl (b : Bool) : Fl (.bl b) (.bool b) := ⟨fun _ _ => .bl b, rfl, by simp [wt], rfl, trivial, fun _ z => by cases z⟩
theorem fl_non : Fl .non .none := ⟨fun _ _ => .non, rfl, by simp [wt], rfl, trivial, fun _ z => by cases z⟩
theorem fl_str {z : Str} {n : Nat} (a : Asc n z) (h : n ≤ 100) : Fl (.str z) (.str z) := by
  refine ⟨fun _ _ => .str z, ?_, ?_, rfl, ?_, fun _ z => by cases z⟩
  · simp only [fine]
    rw [List.all_eq_true]
    exact fun c hc => decide_eq_true (a.2 c hc)
  · simp only [wt]
    have := a.1
    omega
  · show z.length ≤ 1000
    have := a.1
    omega
theorem log2_small {n : Nat} (h : n < 2 ^ 1000) : n.log2 < 1920 := Nat.lt_of_lt_of_le (PySem.Flt.log2_lt_of (by decide) h) (by decide)
theorem Fl.gd {v : V} {d : PyData} (f : Fl v d) : Gd d := ⟨⟨f.fine, Nat.le_trans f.wt (by decide), by rw [f.depth]; decide⟩, ⟨f.sh, fun xs e => absurd e (f.nt xs)⟩⟩
/-- a tuple, a list of flat ones -/
structure Fls (vs : List V) (ds : List PyData) : Prop where
  dp : ∀ K H, DpAll K H vs ds
  fine : fineAll ds = true
  wt : wtAll ds ≤ 2002 * ds.length
  depth : PyData.depthAll ds = 0
  sh : ∀ y ∈ ds, short y
theorem Fls.nil : Fls [] [] := ⟨fun _ _ => .nil, rfl, by simp [wtAll], rfl, fun y hy => by cases hy⟩
theorem Fls.cons {v : V} {d : PyData} {vs : List V} {ds : List PyData} (f : Fl v d) (g : Fls vs ds) : Fls (v :: vs) (d :: ds) := by
  refine ⟨fun K H => .cons (f.dp K H) (g.dp K H), by simp [fineAll, f.fine, g.fine], ?_, by simp [PyData.depthAll, f.depth, g.depth], fun y hy => ?_⟩
  · have h1 := f.wt
    have h2 := g.wt
    simp only [wtAll, List.length_cons]
    omega
  · rcases List.mem_cons.mp hy with h | h
    · rw [h]; exact f.sh
    · exact g.sh y h
theorem Fls.tup {vs : List V} {ds : List PyData} (g : Fls vs ds) (h : ds.length ≤ 10) : Gd (.tuple ds) := by
  have h1 := g.wt
  refine ⟨⟨by simpa [Mw.fine] using g.fine, by simp only [Mw.wt]; omega, by simp [PyData.depth, g.depth]⟩, ⟨trivial, fun xs e => ?_⟩⟩
  cases e
  exact g.sh
theorem Fls.lst {vs : List V} {ds : List PyData} (g : Fls vs ds) (h : ds.length ≤ 10) : Gd (.list ds) := by
  have h1 := g.wt
  exact ⟨⟨by simpa [Mw.fine] using g.fine, by simp only [Mw.wt]; omega, by simp [PyData.depth, g.depth]⟩, ⟨trivial, fun xs e => by cases e⟩⟩
theorem Fls.tup1 {vs : List V} {ds : List PyData} (g : Fls vs ds) (h : ds.length ≤ 10) : Gd (.tuple [.tuple ds]) := by
  have h1 := g.wt
  refine ⟨⟨by simpa [Mw.fine, fineAll] using g.fine, by simp only [Mw.wt, wtAll]; omega, by simp [PyData.depth, PyData.depthAll, g.depth]⟩, ⟨trivial, fun xs e y hy => ?_⟩⟩
  cases e
  rw [List.mem_singleton.mp hy]
  trivial
section
variable {P : Program} {w : World} {K : PySem.W.Frag} {mg : Str → Option Value} {base : Heap}
theorem ok_nl {f c fD fT : Addr} {fd fdD fdT : FuncData} (D : Def K "_law_name_like" sNL f c fd) (t : Txt2 mg) (kD : PySem.W.keepIn K (.ref fD) = true) (bD : Binds K fdD ["_law_feed_here", "_law_many"] []) (gD : mg "_law_draw" = some (.ref fD))
    (GD : FnOk P w K mg base CX0 1 fD fdD ["_law_feed_here", "_law_many"] spDraw) (kT : PySem.W.keepIn K (.ref fT) = true) (bT : Binds K fdT ["_law_feed_here"] []) (gT : mg "_law_text" = some (.ref fT)) (GT : FnOk P w K mg base CX0 2 fT fdT ["_law_feed_here"] spText) :
    FnOk P w K mg base CX0 3 f fd ["_law_feed_here"] (spNL K) := by
  refine D.ok scNL (fun vs H Q E h => ?_) (fun A outer s H vs Q E hr h => ?_)
  · obtain ⟨F, C, ns, rfl, _⟩ := h
    rfl
  · obtain ⟨F, C, ns, rfl, hl, fd, q⟩ := h
    have hr1 : Room 1 _ := hr.mono (by decide)
    refine ⟨_, (pss_cons (ps_set (i := 1) scNL.nd rfl (by first | exact Or.inl rfl | exact Or.inr rfl) (pe_ix ix_list (pe_lst (pa_cons pe_int (pa_cons (pe_op op_add pe_int (pe_call GD hr1 (by rfl) gD kD bD .nil pass0 (pa_cons (pv 0) (pa_cons pe_int pa_nil)))) (pa_cons pe_int (pa_cons (pe_un un_neg pe_int) (pa_cons (pe_op op_mulW (pe_op op_pow pe_int pe_int) (pe_op op_pow pe_int pe_int)) (pa_cons pe_bl (pa_cons pe_str (pa_cons pe_non pa_nil))))))))) (pe_call GD hr1 (by rfl) gD kD bD .nil pass0 (pa_cons (pv 0) (pa_cons pe_int pa_nil))) (fun _ _ => rfl)))
      (pss_cons (ps_set (i := 2) scNL.nd rfl (by first | exact Or.inl rfl | exact Or.inr rfl) (pe_tup (pa_cons (pv 1) (pa_cons (pe_slice sl_str (pe_call GT hr (by rfl) gT kT bT .nil pass0 (pa_cons (pv 0) pa_nil)) po_none (po_some pe_int)) pa_nil))))
      (pss_cons (ps_set (i := 3) scNL.nd rfl (by first | exact Or.inl rfl | exact Or.inr rfl) (pe_call GD hr1 (by rfl) gD kD bD .nil pass0 (pa_cons (pv 0) (pa_cons pe_int pa_nil))))
      (pss_cons (ps_if (pt_cmpR op_lt (pv 3) pe_int (nomark _))
        (pss_one (ps_ret (pv 2)))
        pss_nil)
      (pss_one (ps_ret (pe_ix ix_list (pe_lst (pa_cons (pe_revT (pv 2)) (pa_cons (pe_slice sl_tupA (pv 2) po_none (po_some pe_int)) (pa_cons (pe_op op_catA (pv 2) (pe_tup (pa_cons pe_int pa_nil))) (pa_cons (pe_callTy call_list_of (by rfl) t.lst PyProof.Rows.boot_list (pa_cons (pv 2) pa_nil)) (pa_cons (pe_tup (pa_cons (pv 2) pa_nil)) pa_nil)))))) (pe_op op_sub (pv 3) pe_int) (fun _ _ => rfl)))))))), ?_⟩
    refine ⟨_, rfl, F, C, ns, 1000, rfl, by decide, by decide, hl, fd, fun r1 H1 r10 r11 fd1 ev1 => ?_⟩
    refine ⟨_, _, rfl, rfl, _, rfl, _, _, rfl, rfl, ⟨by decide, by decide, by decide⟩, _, _, rfl, rfl, ⟨by decide, by decide, by decide⟩, _, _, rfl, rfl, (by unfold CMulW; decide +kernel), (by show 8 ≤ sizeLine; decide), fun l nl => ?_⟩
    have fl1 := fd1.new (o := .lst [V.int 1, V.int (1 + r1), V.int 0, V.int (-1), V.int (10 ^ Int.toNat 60 * 10 ^ Int.toNat 60), V.bl true, V.str (Str.ofString "1"), V.non]) nl
    refine ⟨_, rfl, F, C, ns, 8, rfl, by decide, by decide, hl, fl1, fun r2 H2 r20 r21 fd2 ev2 => ?_⟩
    have lF : l ≠ F := fun z => by
      obtain ⟨kvs, hF, _⟩ := fd1.ex
      rw [z, hF] at nl
      cases nl
    have hl2 := ev2 l _ upd_same lF
    obtain ⟨v, hv, hmem, _⟩ := val_at (xs := [V.int 1, V.int (1 + r1), V.int 0, V.int (-1), V.int (10 ^ Int.toNat 60 * 10 ^ Int.toNat 60), V.bl true, V.str (Str.ofString "1"), V.non]) r20 r21
    have hflat : ∃ d, Fl v d := by
      simp only [List.mem_cons, List.not_mem_nil, or_false] at hmem
      rcases hmem with h | h | h | h | h | h | h | h
      · exact ⟨_, h ▸ fl_int (by decide)⟩
      · exact ⟨_, h ▸ fl_int (log2_small (Nat.lt_of_lt_of_le (show (1 + r1).natAbs < 2000 by omega) (by decide +kernel)))⟩
      · exact ⟨_, h ▸ fl_int (by decide)⟩
      · exact ⟨_, h ▸ fl_int (by decide)⟩
      · exact ⟨_, h ▸ fl_int (by decide +kernel)⟩
      · exact ⟨_, h ▸ fl_bl true⟩
      · exact ⟨_, h ▸ fl_str (n := 1) (asc_of (by decide +kernel)) (by decide)⟩
      · exact ⟨_, h ▸ fl_non⟩
    refine ⟨l, _, r2, v, rfl, rfl, .inl (.inl hl2), hv, ?_⟩
    obtain ⟨dv, fv⟩ := hflat
    have ev02 : Ev F H H2 := (ev1.trans (Ev.new nl)).trans ev2
    clear hv hmem hl2 ev2 ev1 fl1 fd1 nl
    -- name
    refine ⟨v, rfl, _, rfl, F, C, ns, rfl, hl, fd2, fun z H3 az fd3 ev3 => ?_⟩
    refine ⟨9, rfl, z, rfl, az.line (by decide), (by show 2 ≤ sizeLine; decide), fun p np => ?_⟩
    have a9 : Asc 30 (cutS z none (some 9)) := az.cut none (some 9)
    generalize cutS z none (some 9) = z9 at a9 np ⊢
    have fz := fl_str a9 (by decide)
    have fd4 := fd3.new (o := .tup [v, .str z9]) np
    have ev4 : Ev F H (upd H3 p (.tup [v, .str z9])) := (ev02.trans ev3).trans (Ev.new np)
    have t4 : SqT K (upd H3 p (.tup [v, .str z9])) p [v, .str z9] := .inl (.inl upd_same)
    generalize upd H3 p (.tup [v, .str z9]) = H4 at fd4 ev4 t4 ⊢
    refine ⟨_, rfl, F, C, ns, 9, rfl, by decide, by decide, hl, fd4, fun r5 H5 r50 r51 fd5 ev5 => ?_⟩
    have t5 := (ev5.kd fd4).sqT t4
    have ev05 := ev4.trans ev5
    have fn2 : Fls [v, .str z9] [dv, .str z9] := .cons fv (.cons fz .nil)
    refine ⟨_, rfl, _, _, rfl, rfl, _, rfl, ite2 (fun _ => ?_) (fun hw => ?_)⟩
    · exact ⟨_, rfl, q _ (.tuple [dv, .str z9]) H5 (.tup t5 (fn2.dp K H5)) (fn2.tup (by simp)) fd5 ev05⟩
    · have hw4 : ¬ r5 < 4 := fun h => hw (decide_eq_true h)
      -- [::-1]
      refine ⟨_, rfl, p, [v, V.str z9], rfl, t5, fun p1 n1 => ?_⟩
      have fd6 := fd5.new (o := .tup [v, V.str z9].reverse) n1
      have ev6 : Ev F H (upd H5 p1 (.tup [v, V.str z9].reverse)) := ev05.trans (Ev.new n1)
      have k6 : Kd H5 (upd H5 p1 (.tup [v, V.str z9].reverse)) := Kd.new n1
      have t6 := k6.sqT t5
      have a6 : SqT K (upd H5 p1 (.tup [v, V.str z9].reverse)) p1 [V.str z9, v] := .inl (.inl upd_same)
      generalize upd H5 p1 (.tup [v, V.str z9].reverse) = H6 at fd6 ev6 t6 a6 ⊢
      refine ⟨_, rfl, 1, rfl, p, [v, V.str z9], rfl, t6, fun h => absurd h.2 (by simp [HT.sIx]), fun _ p2 n2 => ?_⟩
      have fd7 := fd6.new (o := .tup (cutV [v, V.str z9] none (some 1))) n2
      have ev7 : Ev F H (upd H6 p2 (.tup (cutV [v, V.str z9] none (some 1)))) := ev6.trans (Ev.new n2)
      have k7 : Kd H6 (upd H6 p2 (.tup (cutV [v, V.str z9] none (some 1)))) := Kd.new n2
      have t7 := k7.sqT t6
      have a7 := k7.sqT a6
      have b7 : SqT K (upd H6 p2 (.tup (cutV [v, V.str z9] none (some 1)))) p2 [v] := .inl (.inl upd_same)
      generalize upd H6 p2 (.tup (cutV [v, V.str z9] none (some 1))) = H7 at fd7 ev7 t7 a7 b7 ⊢
      refine ⟨_, rfl, (by show 1 ≤ sizeLine; decide), fun p3 n3 => ?_⟩
      have fd8 := fd7.new (o := .tup [V.int 1]) n3
      have ev8 : Ev F H (upd H7 p3 (.tup [V.int 1])) := ev7.trans (Ev.new n3)
      have k8 : Kd H7 (upd H7 p3 (.tup [V.int 1])) := Kd.new n3
      have t8 := k8.sqT t7
      have a8 := k8.sqT a7
      have b8 := k8.sqT b7
      have c8 : SqT K (upd H7 p3 (.tup [V.int 1])) p3 [V.int 1] := .inl (.inl upd_same)
      generalize upd H7 p3 (.tup [V.int 1]) = H8 at fd8 ev8 t8 a8 b8 c8 ⊢
      refine ⟨p, p3, [v, V.str z9], [V.int 1], rfl, rfl, t8, c8, (by show 3 ≤ sizeLine; decide), (fun h => absurd h (by simp)), (fun _ h => absurd h (by simp)), fun _ _ p4 n4 => ?_⟩
      have fd9 := fd8.new (o := .tup ([v, V.str z9] ++ [V.int 1])) n4
      have ev9 : Ev F H (upd H8 p4 (.tup ([v, V.str z9] ++ [V.int 1]))) := ev8.trans (Ev.new n4)
      have k9 : Kd H8 (upd H8 p4 (.tup ([v, V.str z9] ++ [V.int 1]))) := Kd.new n4
      have t9 := k9.sqT t8
      have a9 := k9.sqT a8
      have b9 := k9.sqT b8
      have c9 : SqT K (upd H8 p4 (.tup ([v, V.str z9] ++ [V.int 1]))) p4 [v, V.str z9, V.int 1] := .inl (.inl upd_same)
      generalize upd H8 p4 (.tup ([v, V.str z9] ++ [V.int 1])) = H9 at fd9 ev9 t9 a9 b9 c9 ⊢
      refine ⟨_, rfl, p, [v, V.str z9], rfl, .inr t9, fun p5 n5 => ?_⟩
      have fd10 := fd9.new (o := .lst [v, V.str z9]) n5
      have ev10 : Ev F H (upd H9 p5 (.lst [v, V.str z9])) := ev9.trans (Ev.new n5)
      have k10 : Kd H9 (upd H9 p5 (.lst [v, V.str z9])) := Kd.new n5
      have t10 := k10.sqT t9
      have a10 := k10.sqT a9
      have b10 := k10.sqT b9
      have c10 := k10.sqT c9
      have d10 : SqL K (upd H9 p5 (.lst [v, V.str z9])) p5 [v, V.str z9] := .inl (.inl upd_same)
      generalize upd H9 p5 (.lst [v, V.str z9]) = H10 at fd10 ev10 t10 a10 b10 c10 d10 ⊢
      refine ⟨_, rfl, (by show 1 ≤ sizeLine; decide), fun p6 n6 => ?_⟩
      have fd11 := fd10.new (o := .tup [V.ref p]) n6
      have ev11 : Ev F H (upd H10 p6 (.tup [V.ref p])) := ev10.trans (Ev.new n6)
      have k11 : Kd H10 (upd H10 p6 (.tup [V.ref p])) := Kd.new n6
      have t11 := k11.sqT t10
      have a11 := k11.sqT a10
      have b11 := k11.sqT b10
      have c11 := k11.sqT c10
      have d11 := k11.sqL d10
      have e11 : SqT K (upd H10 p6 (.tup [V.ref p])) p6 [V.ref p] := .inl (.inl upd_same)
      generalize upd H10 p6 (.tup [V.ref p]) = H11 at fd11 ev11 t11 a11 b11 c11 d11 e11 ⊢
      refine ⟨(by show 5 ≤ sizeLine; decide), fun p7 n7 => ?_⟩
      have fd12 := fd11.new (o := .lst [V.ref p1, V.ref p2, V.ref p4, V.ref p5, V.ref p6]) n7
      have ev12 : Ev F H (upd H11 p7 (.lst [V.ref p1, V.ref p2, V.ref p4, V.ref p5, V.ref p6])) := ev11.trans (Ev.new n7)
      have k12 : Kd H11 (upd H11 p7 (.lst [V.ref p1, V.ref p2, V.ref p4, V.ref p5, V.ref p6])) := Kd.new n7
      have t12 := k12.sqT t11
      have a12 := k12.sqT a11
      have b12 := k12.sqT b11
      have c12 := k12.sqT c11
      have d12 := k12.sqL d11
      have e12 := k12.sqT e11
      have f12 : SqL K (upd H11 p7 (.lst [V.ref p1, V.ref p2, V.ref p4, V.ref p5, V.ref p6])) p7 [V.ref p1, V.ref p2, V.ref p4, V.ref p5, V.ref p6] := .inl (.inl upd_same)
      generalize upd H11 p7 (.lst [V.ref p1, V.ref p2, V.ref p4, V.ref p5, V.ref p6]) = H12 at fd12 ev12 t12 a12 b12 c12 d12 e12 f12 ⊢
      obtain ⟨x, hx, xm, _⟩ := val_at (xs := [V.ref p1, V.ref p2, V.ref p4, V.ref p5, V.ref p6]) (r := r5 - 4) (by omega) (by show r5 - 4 < 5; omega)
      refine ⟨_, rfl, _, _, rfl, rfl, p7, _, _, x, rfl, rfl, f12, hx, ?_⟩
      have fi := fl_int (i := 1) (by decide)
      have res : ∃ d, Dp K H12 x d ∧ Gd d := by
        simp only [List.mem_cons, List.not_mem_nil, or_false] at xm
        rcases xm with h | h | h | h | h
        · have g : Fls [V.str z9, v] [.str z9, dv] := .cons fz (.cons fv .nil)
          exact ⟨_, h ▸ .tup a12 (g.dp K H12), g.tup (by simp)⟩
        · have g : Fls [v] [dv] := .cons fv .nil
          exact ⟨_, h ▸ .tup b12 (g.dp K H12), g.tup (by simp)⟩
        · have g : Fls [v, V.str z9, V.int 1] [dv, .str z9, .int 1] := .cons fv (.cons fz (.cons fi .nil))
          exact ⟨_, h ▸ .tup c12 (g.dp K H12), g.tup (by simp)⟩
        · exact ⟨_, h ▸ .lst d12 (fn2.dp K H12), fn2.lst (by simp)⟩
        · exact ⟨_, h ▸ .tup e12 (.cons (.tup t12 (fn2.dp K H12)) .nil), fn2.tup1 (by simp)⟩
      obtain ⟨d, dd, gd⟩ := res
      exact q x d H12 dd gd fd12 ev12
end
end K01

namespace K01
open PySem PySem.Spec PyProof.Rows L2 Mw
abbrev sThing : Stmt := topS 14
theorem scThing : FnScope ["_law_feed_here", "_law_way", "_law_odd"] ["_law_feed_here"] (defScope sThing) := ⟨rfl, rfl, rfl, by decide +kernel, rfl, by decide +kernel, by decide +kernel⟩
section
variable {P : Program} {w : World} {K : PySem.W.Frag} {mg : Str → Option Value} {base : Heap}
theorem ok_thing {f c fD fT fL : Addr} {fd fdD fdT fdL : FuncData} (D : Def K "_law_thing" sThing f c fd) (t : Txt2 mg) (kD : PySem.W.keepIn K (.ref fD) = true) (bD : Binds K fdD ["_law_feed_here", "_law_many"] []) (gD : mg "_law_draw" = some (.ref fD))
    (GD : FnOk P w K mg base CX0 1 fD fdD ["_law_feed_here", "_law_many"] spDraw) (kT : PySem.W.keepIn K (.ref fT) = true) (bT : Binds K fdT ["_law_feed_here"] []) (gT : mg "_law_text" = some (.ref fT)) (GT : FnOk P w K mg base CX0 2 fT fdT ["_law_feed_here"] spText)
    (kL : PySem.W.keepIn K (.ref fL) = true) (bL : Binds K fdL ["_law_feed_here"] []) (gL : mg "_law_name_like" = some (.ref fL)) (GL : FnOk P w K mg base CX0 3 fL fdL ["_law_feed_here"] (spNL K)) :
    FnOk P w K mg base CX0 4 f fd ["_law_feed_here"] (spNL K) := by
  refine D.ok scThing (fun vs H Q E h => ?_) (fun A outer s H vs Q E hr h => ?_)
  · obtain ⟨F, C, ns, rfl, _⟩ := h
    rfl
  · obtain ⟨F, C, ns, rfl, hl, fd, q⟩ := h
    have hr1 : Room 1 _ := hr.mono (by decide)
    have hr2 : Room 2 _ := hr.mono (by decide)
    refine ⟨_, (pss_cons (ps_set (i := 1) scThing.nd rfl (by first | exact Or.inl rfl | exact Or.inr rfl) (pe_call GD hr1 (by rfl) gD kD bD .nil pass0 (pa_cons (pv 0) (pa_cons pe_int pa_nil))))
      (pss_cons (ps_if (pt_cmpR op_lt (pv 1) pe_int (nomark _))
        (pss_one (ps_ret (pe_call GT hr2 (by rfl) gT kT bT .nil pass0 (pa_cons (pv 0) pa_nil))))
        pss_nil)
      (pss_cons (ps_if (pt_cmpR op_lt (pv 1) pe_int (nomark _))
        (pss_one (ps_ret (pe_call GL hr (by rfl) gL kL bL .nil pass0 (pa_cons (pv 0) pa_nil))))
        pss_nil)
      (pss_cons (ps_if (pt_cmpR op_eq (pv 1) pe_int (nomark _))
        (pss_one (ps_ret (pe_ix ix_list (pe_lst (pa_cons pe_int (pa_cons pe_int (pa_cons (pe_un un_neg pe_int) (pa_cons pe_int (pa_cons (pe_op op_mulW (pe_op op_pow pe_int pe_int) (pe_op op_pow pe_int pe_int)) (pa_cons (pe_un un_neg pe_int) pa_nil))))))) (pe_call GD hr1 (by rfl) gD kD bD .nil pass0 (pa_cons (pv 0) (pa_cons pe_int pa_nil))) (fun _ _ => rfl))))
        pss_nil)
      (pss_cons (ps_set (i := 2) scThing.nd rfl (by first | exact Or.inl rfl | exact Or.inr rfl) (pe_lst (pa_cons pe_bl (pa_cons pe_bl (pa_cons pe_non (pa_cons pe_str (pa_cons pe_str (pa_cons pe_str (pa_cons pe_str (pa_cons (pe_tup pa_nil) (pa_cons (pe_lst pa_nil) (pa_cons (pe_lst (pa_cons pe_int (pa_cons pe_str pa_nil))) (pa_cons (pe_tup (pa_cons pe_int (pa_cons pe_str pa_nil))) (pa_cons (pe_tup (pa_cons pe_int (pa_cons pe_str pa_nil))) (pa_cons (pe_tup (pa_cons pe_bl (pa_cons pe_str pa_nil))) (pa_cons (pe_tup (pa_cons pe_str (pa_cons pe_int pa_nil))) pa_nil))))))))))))))))
      (pss_cons (ps_expr (pe_bm PySem.F.plainAttrs_list PySem.F.slot_list_append PySem.F.type_list_append mt_append (pv 2) (pa_cons (pe_tup (pa_cons (pe_tup (pa_cons pe_int (pa_cons pe_str pa_nil))) pa_nil)) pa_nil)))
      (pss_one (ps_ret (pe_ix ix_list (pv 2) (pe_call GD hr1 (by rfl) gD kD bD .nil pass0 (pa_cons (pv 0) (pa_cons pe_int pa_nil))) (fun _ _ => rfl)))))))))), ?_⟩
    refine ⟨_, rfl, F, C, ns, 6, rfl, by decide, by decide, hl, fd, fun r1 H1 r10 r11 fd1 ev1 => ?_⟩
    refine ⟨_, rfl, _, _, rfl, rfl, _, rfl, ite2 (fun _ => ?_) (fun _ => ?_)⟩
    · exact ⟨_, rfl, F, C, ns, rfl, hl, fd1, fun z H2 az fd2 ev2 => q _ _ H2 ((fl_str az (by decide)).dp K H2) (fl_str az (by decide)).gd fd2 (ev1.trans ev2)⟩
    refine ⟨_, rfl, _, _, rfl, rfl, _, rfl, ite2 (fun _ => ?_) (fun _ => ?_)⟩
    · exact ⟨_, rfl, F, C, ns, rfl, hl, fd1, fun x d H2 dd gd fd2 ev2 => q x d H2 dd gd fd2 (ev1.trans ev2)⟩
    refine ⟨_, rfl, rfl, _, rfl, ite2 (fun _ => ?_) (fun _ => ?_)⟩
    · refine ⟨_, rfl, _, _, rfl, rfl, ⟨by decide, by decide, by decide⟩, _, _, rfl, rfl, ⟨by decide, by decide, by decide⟩, _, _, rfl, rfl, (by unfold CMulW; decide +kernel), _, rfl, (by show 6 ≤ sizeLine; decide), fun l nl => ?_⟩
      have fl1 := fd1.new (o := .lst [V.int 0, V.int 1, V.int (-1), V.int 7, V.int (10 ^ Int.toNat 60 * 10 ^ Int.toNat 60), V.int (-5)]) nl
      refine ⟨_, rfl, F, C, ns, 6, rfl, by decide, by decide, hl, fl1, fun r2 H2 r20 r21 fd2 ev2 => ?_⟩
      have lF : l ≠ F := fun z => by
        obtain ⟨kvs, hF, _⟩ := fd1.ex
        rw [z, hF] at nl
        cases nl
      have hl2 := ev2 l _ upd_same lF
      obtain ⟨v, hv, hmem, _⟩ := val_at (xs := [V.int 0, V.int 1, V.int (-1), V.int 7, V.int (10 ^ Int.toNat 60 * 10 ^ Int.toNat 60), V.int (-5)]) r20 r21
      have hflat : ∃ d, Fl v d := by
        simp only [List.mem_cons, List.not_mem_nil, or_false] at hmem
        rcases hmem with h | h | h | h | h | h
        all_goals exact ⟨_, h ▸ fl_int (by decide +kernel)⟩
      obtain ⟨dv, fv⟩ := hflat
      exact ⟨l, _, r2, v, rfl, rfl, .inl (.inl hl2), hv, q v dv H2 (fv.dp K H2) fv.gd fd2 ((ev1.trans (Ev.new nl)).trans ev2)⟩
    refine ⟨(by show 0 ≤ sizeLine; decide), fun p1 np1 => ?_⟩
    have fd_p1 := fd1.new (o := .tup []) np1
    have ev_p1 : Ev F H (upd H1 p1 (.tup [])) := ev1.trans (Ev.new np1)
    have k_p1 : Kd H1 (upd H1 p1 (.tup [])) := Kd.new np1
    have q_p1 : SqT K (upd H1 p1 (.tup [])) p1 [] := .inl (.inl upd_same)
    generalize upd H1 p1 (.tup []) = H_1 at fd_p1 ev_p1 q_p1 ⊢
    refine ⟨(by show 0 ≤ sizeLine; decide), fun p2 np2 => ?_⟩
    have fd_p2 := fd_p1.new (o := .lst []) np2
    have ev_p2 : Ev F H (upd H_1 p2 (.lst [])) := ev_p1.trans (Ev.new np2)
    have k_p2 : Kd H_1 (upd H_1 p2 (.lst [])) := Kd.new np2
    have q_p1 := k_p2.sqT q_p1
    have q_p2 : SqL K (upd H_1 p2 (.lst [])) p2 [] := .inl (.inl upd_same)
    have r_p2 : (upd H_1 p2 (.lst [])) p2 = some (.lst []) := upd_same
    generalize upd H_1 p2 (.lst []) = H_2 at fd_p2 ev_p2 q_p1 q_p2 r_p2 ⊢
    refine ⟨(by show 2 ≤ sizeLine; decide), fun p3 np3 => ?_⟩
    have fd_p3 := fd_p2.new (o := .lst [V.int 1, V.str (Str.ofString "a")]) np3
    have ev_p3 : Ev F H (upd H_2 p3 (.lst [V.int 1, V.str (Str.ofString "a")])) := ev_p2.trans (Ev.new np3)
    have k_p3 : Kd H_2 (upd H_2 p3 (.lst [V.int 1, V.str (Str.ofString "a")])) := Kd.new np3
    have q_p1 := k_p3.sqT q_p1
    have q_p2 := k_p3.sqL q_p2
    have q_p3 : SqL K (upd H_2 p3 (.lst [V.int 1, V.str (Str.ofString "a")])) p3 [V.int 1, V.str (Str.ofString "a")] := .inl (.inl upd_same)
    have r_p2 : (upd H_2 p3 (.lst [V.int 1, V.str (Str.ofString "a")])) p2 = some (.lst []) := by rw [upd_ne (ne_of_none r_p2 np3)]; exact r_p2
    have r_p3 : (upd H_2 p3 (.lst [V.int 1, V.str (Str.ofString "a")])) p3 = some (.lst [V.int 1, V.str (Str.ofString "a")]) := upd_same
    generalize upd H_2 p3 (.lst [V.int 1, V.str (Str.ofString "a")]) = H_3 at fd_p3 ev_p3 q_p1 q_p2 q_p3 r_p2 r_p3 ⊢
    refine ⟨(by show 2 ≤ sizeLine; decide), fun p4 np4 => ?_⟩
    have fd_p4 := fd_p3.new (o := .tup [V.int 1, V.str (Str.ofString "a")]) np4
    have ev_p4 : Ev F H (upd H_3 p4 (.tup [V.int 1, V.str (Str.ofString "a")])) := ev_p3.trans (Ev.new np4)
    have k_p4 : Kd H_3 (upd H_3 p4 (.tup [V.int 1, V.str (Str.ofString "a")])) := Kd.new np4
    have q_p1 := k_p4.sqT q_p1
    have q_p2 := k_p4.sqL q_p2
    have q_p3 := k_p4.sqL q_p3
    have q_p4 : SqT K (upd H_3 p4 (.tup [V.int 1, V.str (Str.ofString "a")])) p4 [V.int 1, V.str (Str.ofString "a")] := .inl (.inl upd_same)
    have r_p2 : (upd H_3 p4 (.tup [V.int 1, V.str (Str.ofString "a")])) p2 = some (.lst []) := by rw [upd_ne (ne_of_none r_p2 np4)]; exact r_p2
    have r_p3 : (upd H_3 p4 (.tup [V.int 1, V.str (Str.ofString "a")])) p3 = some (.lst [V.int 1, V.str (Str.ofString "a")]) := by rw [upd_ne (ne_of_none r_p3 np4)]; exact r_p3
    generalize upd H_3 p4 (.tup [V.int 1, V.str (Str.ofString "a")]) = H_4 at fd_p4 ev_p4 q_p1 q_p2 q_p3 q_p4 r_p2 r_p3 ⊢
    refine ⟨(by show 2 ≤ sizeLine; decide), fun p5 np5 => ?_⟩
    have fd_p5 := fd_p4.new (o := .tup [V.int 1, V.str (Str.ofString " ")]) np5
    have ev_p5 : Ev F H (upd H_4 p5 (.tup [V.int 1, V.str (Str.ofString " ")])) := ev_p4.trans (Ev.new np5)
    have k_p5 : Kd H_4 (upd H_4 p5 (.tup [V.int 1, V.str (Str.ofString " ")])) := Kd.new np5
    have q_p1 := k_p5.sqT q_p1
    have q_p2 := k_p5.sqL q_p2
    have q_p3 := k_p5.sqL q_p3
    have q_p4 := k_p5.sqT q_p4
    have q_p5 : SqT K (upd H_4 p5 (.tup [V.int 1, V.str (Str.ofString " ")])) p5 [V.int 1, V.str (Str.ofString " ")] := .inl (.inl upd_same)
    have r_p2 : (upd H_4 p5 (.tup [V.int 1, V.str (Str.ofString " ")])) p2 = some (.lst []) := by rw [upd_ne (ne_of_none r_p2 np5)]; exact r_p2
    have r_p3 : (upd H_4 p5 (.tup [V.int 1, V.str (Str.ofString " ")])) p3 = some (.lst [V.int 1, V.str (Str.ofString "a")]) := by rw [upd_ne (ne_of_none r_p3 np5)]; exact r_p3
    generalize upd H_4 p5 (.tup [V.int 1, V.str (Str.ofString " ")]) = H_5 at fd_p5 ev_p5 q_p1 q_p2 q_p3 q_p4 q_p5 r_p2 r_p3 ⊢
    refine ⟨(by show 2 ≤ sizeLine; decide), fun p6 np6 => ?_⟩
    have fd_p6 := fd_p5.new (o := .tup [V.bl true, V.str (Str.ofString "a")]) np6
    have ev_p6 : Ev F H (upd H_5 p6 (.tup [V.bl true, V.str (Str.ofString "a")])) := ev_p5.trans (Ev.new np6)
    have k_p6 : Kd H_5 (upd H_5 p6 (.tup [V.bl true, V.str (Str.ofString "a")])) := Kd.new np6
    have q_p1 := k_p6.sqT q_p1
    have q_p2 := k_p6.sqL q_p2
    have q_p3 := k_p6.sqL q_p3
    have q_p4 := k_p6.sqT q_p4
    have q_p5 := k_p6.sqT q_p5
    have q_p6 : SqT K (upd H_5 p6 (.tup [V.bl true, V.str (Str.ofString "a")])) p6 [V.bl true, V.str (Str.ofString "a")] := .inl (.inl upd_same)
    have r_p2 : (upd H_5 p6 (.tup [V.bl true, V.str (Str.ofString "a")])) p2 = some (.lst []) := by rw [upd_ne (ne_of_none r_p2 np6)]; exact r_p2
    have r_p3 : (upd H_5 p6 (.tup [V.bl true, V.str (Str.ofString "a")])) p3 = some (.lst [V.int 1, V.str (Str.ofString "a")]) := by rw [upd_ne (ne_of_none r_p3 np6)]; exact r_p3
    generalize upd H_5 p6 (.tup [V.bl true, V.str (Str.ofString "a")]) = H_6 at fd_p6 ev_p6 q_p1 q_p2 q_p3 q_p4 q_p5 q_p6 r_p2 r_p3 ⊢
    refine ⟨(by show 2 ≤ sizeLine; decide), fun p7 np7 => ?_⟩
    have fd_p7 := fd_p6.new (o := .tup [V.str (Str.ofString "a"), V.int 1]) np7
    have ev_p7 : Ev F H (upd H_6 p7 (.tup [V.str (Str.ofString "a"), V.int 1])) := ev_p6.trans (Ev.new np7)
    have k_p7 : Kd H_6 (upd H_6 p7 (.tup [V.str (Str.ofString "a"), V.int 1])) := Kd.new np7
    have q_p1 := k_p7.sqT q_p1
    have q_p2 := k_p7.sqL q_p2
    have q_p3 := k_p7.sqL q_p3
    have q_p4 := k_p7.sqT q_p4
    have q_p5 := k_p7.sqT q_p5
    have q_p6 := k_p7.sqT q_p6
    have q_p7 : SqT K (upd H_6 p7 (.tup [V.str (Str.ofString "a"), V.int 1])) p7 [V.str (Str.ofString "a"), V.int 1] := .inl (.inl upd_same)
    have r_p2 : (upd H_6 p7 (.tup [V.str (Str.ofString "a"), V.int 1])) p2 = some (.lst []) := by rw [upd_ne (ne_of_none r_p2 np7)]; exact r_p2
    have r_p3 : (upd H_6 p7 (.tup [V.str (Str.ofString "a"), V.int 1])) p3 = some (.lst [V.int 1, V.str (Str.ofString "a")]) := by rw [upd_ne (ne_of_none r_p3 np7)]; exact r_p3
    generalize upd H_6 p7 (.tup [V.str (Str.ofString "a"), V.int 1]) = H_7 at fd_p7 ev_p7 q_p1 q_p2 q_p3 q_p4 q_p5 q_p6 q_p7 r_p2 r_p3 ⊢
    refine ⟨(by show 14 ≤ sizeLine; decide), fun p8 np8 => ?_⟩
    have fd_p8 := fd_p7.new (o := .lst [V.bl true, V.bl false, V.non, V.str (Str.ofString ""), V.str (Str.ofString " "), V.str (Str.ofString "a"), V.str (Str.ofString "z"), V.ref p1, V.ref p2, V.ref p3, V.ref p4, V.ref p5, V.ref p6, V.ref p7]) np8
    have ev_p8 : Ev F H (upd H_7 p8 (.lst [V.bl true, V.bl false, V.non, V.str (Str.ofString ""), V.str (Str.ofString " "), V.str (Str.ofString "a"), V.str (Str.ofString "z"), V.ref p1, V.ref p2, V.ref p3, V.ref p4, V.ref p5, V.ref p6, V.ref p7])) := ev_p7.trans (Ev.new np8)
    have k_p8 : Kd H_7 (upd H_7 p8 (.lst [V.bl true, V.bl false, V.non, V.str (Str.ofString ""), V.str (Str.ofString " "), V.str (Str.ofString "a"), V.str (Str.ofString "z"), V.ref p1, V.ref p2, V.ref p3, V.ref p4, V.ref p5, V.ref p6, V.ref p7])) := Kd.new np8
    have q_p1 := k_p8.sqT q_p1
    have q_p2 := k_p8.sqL q_p2
    have q_p3 := k_p8.sqL q_p3
    have q_p4 := k_p8.sqT q_p4
    have q_p5 := k_p8.sqT q_p5
    have q_p6 := k_p8.sqT q_p6
    have q_p7 := k_p8.sqT q_p7
    have q_p8 : SqL K (upd H_7 p8 (.lst [V.bl true, V.bl false, V.non, V.str (Str.ofString ""), V.str (Str.ofString " "), V.str (Str.ofString "a"), V.str (Str.ofString "z"), V.ref p1, V.ref p2, V.ref p3, V.ref p4, V.ref p5, V.ref p6, V.ref p7])) p8 [V.bl true, V.bl false, V.non, V.str (Str.ofString ""), V.str (Str.ofString " "), V.str (Str.ofString "a"), V.str (Str.ofString "z"), V.ref p1, V.ref p2, V.ref p3, V.ref p4, V.ref p5, V.ref p6, V.ref p7] := .inl (.inl upd_same)
    have r_p2 : (upd H_7 p8 (.lst [V.bl true, V.bl false, V.non, V.str (Str.ofString ""), V.str (Str.ofString " "), V.str (Str.ofString "a"), V.str (Str.ofString "z"), V.ref p1, V.ref p2, V.ref p3, V.ref p4, V.ref p5, V.ref p6, V.ref p7])) p2 = some (.lst []) := by rw [upd_ne (ne_of_none r_p2 np8)]; exact r_p2
    have r_p3 : (upd H_7 p8 (.lst [V.bl true, V.bl false, V.non, V.str (Str.ofString ""), V.str (Str.ofString " "), V.str (Str.ofString "a"), V.str (Str.ofString "z"), V.ref p1, V.ref p2, V.ref p3, V.ref p4, V.ref p5, V.ref p6, V.ref p7])) p3 = some (.lst [V.int 1, V.str (Str.ofString "a")]) := by rw [upd_ne (ne_of_none r_p3 np8)]; exact r_p3
    have r_p8 : (upd H_7 p8 (.lst [V.bl true, V.bl false, V.non, V.str (Str.ofString ""), V.str (Str.ofString " "), V.str (Str.ofString "a"), V.str (Str.ofString "z"), V.ref p1, V.ref p2, V.ref p3, V.ref p4, V.ref p5, V.ref p6, V.ref p7])) p8 = some (.lst [V.bl true, V.bl false, V.non, V.str (Str.ofString ""), V.str (Str.ofString " "), V.str (Str.ofString "a"), V.str (Str.ofString "z"), V.ref p1, V.ref p2, V.ref p3, V.ref p4, V.ref p5, V.ref p6, V.ref p7]) := upd_same
    generalize upd H_7 p8 (.lst [V.bl true, V.bl false, V.non, V.str (Str.ofString ""), V.str (Str.ofString " "), V.str (Str.ofString "a"), V.str (Str.ofString "z"), V.ref p1, V.ref p2, V.ref p3, V.ref p4, V.ref p5, V.ref p6, V.ref p7]) = H_8 at fd_p8 ev_p8 q_p1 q_p2 q_p3 q_p4 q_p5 q_p6 q_p7 q_p8 r_p2 r_p3 r_p8 ⊢
    refine ⟨_, rfl, .inl ⟨rfl, _, q_p8⟩, (by show 2 ≤ sizeLine; decide), fun p9 np9 => ?_⟩
    have fd_p9 := fd_p8.new (o := .tup [V.int 1, V.str (Str.ofString "a")]) np9
    have ev_p9 : Ev F H (upd H_8 p9 (.tup [V.int 1, V.str (Str.ofString "a")])) := ev_p8.trans (Ev.new np9)
    have k_p9 : Kd H_8 (upd H_8 p9 (.tup [V.int 1, V.str (Str.ofString "a")])) := Kd.new np9
    have q_p1 := k_p9.sqT q_p1
    have q_p2 := k_p9.sqL q_p2
    have q_p3 := k_p9.sqL q_p3
    have q_p4 := k_p9.sqT q_p4
    have q_p5 := k_p9.sqT q_p5
    have q_p6 := k_p9.sqT q_p6
    have q_p7 := k_p9.sqT q_p7
    have q_p8 := k_p9.sqL q_p8
    have q_p9 : SqT K (upd H_8 p9 (.tup [V.int 1, V.str (Str.ofString "a")])) p9 [V.int 1, V.str (Str.ofString "a")] := .inl (.inl upd_same)
    have r_p2 : (upd H_8 p9 (.tup [V.int 1, V.str (Str.ofString "a")])) p2 = some (.lst []) := by rw [upd_ne (ne_of_none r_p2 np9)]; exact r_p2
    have r_p3 : (upd H_8 p9 (.tup [V.int 1, V.str (Str.ofString "a")])) p3 = some (.lst [V.int 1, V.str (Str.ofString "a")]) := by rw [upd_ne (ne_of_none r_p3 np9)]; exact r_p3
    have r_p8 : (upd H_8 p9 (.tup [V.int 1, V.str (Str.ofString "a")])) p8 = some (.lst [V.bl true, V.bl false, V.non, V.str (Str.ofString ""), V.str (Str.ofString " "), V.str (Str.ofString "a"), V.str (Str.ofString "z"), V.ref p1, V.ref p2, V.ref p3, V.ref p4, V.ref p5, V.ref p6, V.ref p7]) := by rw [upd_ne (ne_of_none r_p8 np9)]; exact r_p8
    generalize upd H_8 p9 (.tup [V.int 1, V.str (Str.ofString "a")]) = H_9 at fd_p9 ev_p9 q_p1 q_p2 q_p3 q_p4 q_p5 q_p6 q_p7 q_p8 q_p9 r_p2 r_p3 r_p8 ⊢
    refine ⟨(by show 1 ≤ sizeLine; decide), fun p10 np10 => ?_⟩
    have fd_p10 := fd_p9.new (o := .tup [V.ref p9]) np10
    have ev_p10 : Ev F H (upd H_9 p10 (.tup [V.ref p9])) := ev_p9.trans (Ev.new np10)
    have k_p10 : Kd H_9 (upd H_9 p10 (.tup [V.ref p9])) := Kd.new np10
    have q_p1 := k_p10.sqT q_p1
    have q_p2 := k_p10.sqL q_p2
    have q_p3 := k_p10.sqL q_p3
    have q_p4 := k_p10.sqT q_p4
    have q_p5 := k_p10.sqT q_p5
    have q_p6 := k_p10.sqT q_p6
    have q_p7 := k_p10.sqT q_p7
    have q_p8 := k_p10.sqL q_p8
    have q_p9 := k_p10.sqT q_p9
    have q_p10 : SqT K (upd H_9 p10 (.tup [V.ref p9])) p10 [V.ref p9] := .inl (.inl upd_same)
    have r_p2 : (upd H_9 p10 (.tup [V.ref p9])) p2 = some (.lst []) := by rw [upd_ne (ne_of_none r_p2 np10)]; exact r_p2
    have r_p3 : (upd H_9 p10 (.tup [V.ref p9])) p3 = some (.lst [V.int 1, V.str (Str.ofString "a")]) := by rw [upd_ne (ne_of_none r_p3 np10)]; exact r_p3
    have r_p8 : (upd H_9 p10 (.tup [V.ref p9])) p8 = some (.lst [V.bl true, V.bl false, V.non, V.str (Str.ofString ""), V.str (Str.ofString " "), V.str (Str.ofString "a"), V.str (Str.ofString "z"), V.ref p1, V.ref p2, V.ref p3, V.ref p4, V.ref p5, V.ref p6, V.ref p7]) := by rw [upd_ne (ne_of_none r_p8 np10)]; exact r_p8
    generalize upd H_9 p10 (.tup [V.ref p9]) = H_10 at fd_p10 ev_p10 q_p1 q_p2 q_p3 q_p4 q_p5 q_p6 q_p7 q_p8 q_p9 q_p10 r_p2 r_p3 r_p8 ⊢
    have n8F : p8 ≠ F := fun z => by
      obtain ⟨kvs, hF, _⟩ := fd_p10.ex
      rw [z, hF] at r_p8
      cases r_p8
    have n8C : p8 ≠ C := fun z => by
      rw [z] at np8
      obtain ⟨b, hb⟩ : ∃ b, b = C := ⟨_, rfl⟩
      have := fd_p7.cl
      rw [np8] at this
      cases this
    have n8H : H p8 = none := Ev.free fd_p7 ev_p7 np8
    refine ⟨p8, [V.bl true, V.bl false, V.non, V.str (Str.ofString ""), V.str (Str.ofString " "), V.str (Str.ofString "a"), V.str (Str.ofString "z"), V.ref p1, V.ref p2, V.ref p3, V.ref p4, V.ref p5, V.ref p6, V.ref p7], V.ref p10, rfl, rfl, r_p8, (by show 14 < sizeLine; decide), ?_⟩
    have fdA : Fd F C ns (upd H_10 p8 (.lst ([V.bl true, V.bl false, V.non, V.str (Str.ofString ""), V.str (Str.ofString " "), V.str (Str.ofString "a"), V.str (Str.ofString "z"), V.ref p1, V.ref p2, V.ref p3, V.ref p4, V.ref p5, V.ref p6, V.ref p7] ++ [V.ref p10]))) := fd_p10.over r_p8 n8F n8C
    have evA : Ev F H (upd H_10 p8 (.lst ([V.bl true, V.bl false, V.non, V.str (Str.ofString ""), V.str (Str.ofString " "), V.str (Str.ofString "a"), V.str (Str.ofString "z"), V.ref p1, V.ref p2, V.ref p3, V.ref p4, V.ref p5, V.ref p6, V.ref p7] ++ [V.ref p10]))) := ev_p10.put (q := p8) n8H
    have kT : ∀ a xs, SqT K H_10 a xs → SqT K (upd H_10 p8 (.lst ([V.bl true, V.bl false, V.non, V.str (Str.ofString ""), V.str (Str.ofString " "), V.str (Str.ofString "a"), V.str (Str.ofString "z"), V.ref p1, V.ref p2, V.ref p3, V.ref p4, V.ref p5, V.ref p6, V.ref p7] ++ [V.ref p10]))) a xs := fun a xs h => by
      rcases h with (h | ⟨o, h⟩) | h
      · exact .inl (.inl (by rw [upd_ne (ne_of h r_p8 (by intro z; cases z))]; exact h))
      · exact .inl (.inr ⟨o, by rw [upd_ne (ne_of h r_p8 (by intro z; cases z))]; exact h⟩)
      · exact .inr h
    have q1 := kT _ _ q_p1
    have q4 := kT _ _ q_p4
    have q5 := kT _ _ q_p5
    have q6 := kT _ _ q_p6
    have q7 := kT _ _ q_p7
    have q9 := kT _ _ q_p9
    have q10 := kT _ _ q_p10
    have kL' : ∀ a xs, a ≠ p8 → SqL K H_10 a xs → SqL K (upd H_10 p8 (.lst ([V.bl true, V.bl false, V.non, V.str (Str.ofString ""), V.str (Str.ofString " "), V.str (Str.ofString "a"), V.str (Str.ofString "z"), V.ref p1, V.ref p2, V.ref p3, V.ref p4, V.ref p5, V.ref p6, V.ref p7] ++ [V.ref p10]))) a xs := fun a xs n h => by
      rcases h with (h | ⟨o, h⟩) | h
      · exact .inl (.inl (by rw [upd_ne n]; exact h))
      · exact .inl (.inr ⟨o, by rw [upd_ne n]; exact h⟩)
      · exact .inr h
    have n28 : p2 ≠ p8 := ne_of r_p2 r_p8 (by intro z; cases z)
    have n38 : p3 ≠ p8 := ne_of r_p3 r_p8 (by intro z; cases z)
    have q2 := kL' _ _ n28 q_p2
    have q3 := kL' _ _ n38 q_p3
    have q8 : SqL K (upd H_10 p8 (.lst ([V.bl true, V.bl false, V.non, V.str (Str.ofString ""), V.str (Str.ofString " "), V.str (Str.ofString "a"), V.str (Str.ofString "z"), V.ref p1, V.ref p2, V.ref p3, V.ref p4, V.ref p5, V.ref p6, V.ref p7] ++ [V.ref p10]))) p8 ([V.bl true, V.bl false, V.non, V.str (Str.ofString ""), V.str (Str.ofString " "), V.str (Str.ofString "a"), V.str (Str.ofString "z"), V.ref p1, V.ref p2, V.ref p3, V.ref p4, V.ref p5, V.ref p6, V.ref p7] ++ [V.ref p10]) := .inl (.inl upd_same)
    generalize upd H_10 p8 (.lst ([V.bl true, V.bl false, V.non, V.str (Str.ofString ""), V.str (Str.ofString " "), V.str (Str.ofString "a"), V.str (Str.ofString "z"), V.ref p1, V.ref p2, V.ref p3, V.ref p4, V.ref p5, V.ref p6, V.ref p7] ++ [V.ref p10])) = HA at fdA evA q1 q2 q3 q4 q5 q6 q7 q8 q9 q10 ⊢
    refine ⟨_, rfl, _, rfl, F, C, ns, 15, rfl, by decide, by decide, hl, fdA, fun rB HB rB0 rB1 fdB evB => ?_⟩
    have kB := evB.kd fdA
    obtain ⟨x, hx, xm, _⟩ := val_at (xs := [V.bl true, V.bl false, V.non, V.str (Str.ofString ""), V.str (Str.ofString " "), V.str (Str.ofString "a"), V.str (Str.ofString "z"), V.ref p1, V.ref p2, V.ref p3, V.ref p4, V.ref p5, V.ref p6, V.ref p7] ++ [V.ref p10]) (r := rB) rB0 (by show rB < 15; exact rB1)
    refine ⟨p8, _, rB, x, rfl, rfl, kB.sqL q8, hx, ?_⟩
    have fa := fl_str (z := Str.ofString "a") (n := 1) (asc_of (by decide +kernel)) (by decide)
    have fb := fl_str (z := Str.ofString " ") (n := 1) (asc_of (by decide +kernel)) (by decide)
    have fi := fl_int (i := 1) (by decide)
    have res : ∃ d, Dp K HB x d ∧ Gd d := by
      simp only [List.cons_append, List.nil_append, List.mem_cons, List.not_mem_nil, or_false] at xm
      rcases xm with h | h | h | h | h | h | h | h | h | h | h | h | h | h | h
      · exact ⟨_, h ▸ .bl true, (fl_bl true).gd⟩
      · exact ⟨_, h ▸ .bl false, (fl_bl false).gd⟩
      · exact ⟨_, h ▸ .non, fl_non.gd⟩
      · exact ⟨_, h ▸ .str _, (fl_str (z := Str.ofString "") (n := 1) (asc_of (by decide +kernel)) (by decide)).gd⟩
      · exact ⟨_, h ▸ .str _, fb.gd⟩
      · exact ⟨_, h ▸ .str _, fa.gd⟩
      · exact ⟨_, h ▸ .str _, (fl_str (z := Str.ofString "z") (n := 1) (asc_of (by decide +kernel)) (by decide)).gd⟩
      · exact ⟨.tuple [], h ▸ .tup (kB.sqT q1) (Fls.nil.dp K HB), Fls.nil.tup (by simp)⟩
      · exact ⟨.list [], h ▸ .lst (kB.sqL q2) (Fls.nil.dp K HB), Fls.nil.lst (by simp)⟩
      · exact ⟨_, h ▸ .lst (kB.sqL q3) ((Fls.cons fi (.cons fa .nil)).dp K HB), (Fls.cons fi (.cons fa .nil)).lst (by simp)⟩
      · exact ⟨_, h ▸ .tup (kB.sqT q4) ((Fls.cons fi (.cons fa .nil)).dp K HB), (Fls.cons fi (.cons fa .nil)).tup (by simp)⟩
      · exact ⟨_, h ▸ .tup (kB.sqT q5) ((Fls.cons fi (.cons fb .nil)).dp K HB), (Fls.cons fi (.cons fb .nil)).tup (by simp)⟩
      · exact ⟨_, h ▸ .tup (kB.sqT q6) ((Fls.cons (fl_bl true) (.cons fa .nil)).dp K HB), (Fls.cons (fl_bl true) (.cons fa .nil)).tup (by simp)⟩
      · exact ⟨_, h ▸ .tup (kB.sqT q7) ((Fls.cons fa (.cons fi .nil)).dp K HB), (Fls.cons fa (.cons fi .nil)).tup (by simp)⟩
      · exact ⟨_, h ▸ .tup (kB.sqT q10) (.cons (.tup (kB.sqT q9) ((Fls.cons fi (.cons fa .nil)).dp K HB)) .nil), (Fls.cons fi (.cons fa .nil)).tup1 (by simp)⟩
    obtain ⟨d, dd, gd⟩ := res
    exact q x d HB dd gd fdB (evA.trans evB)
end
end K01

namespace K01
open PySem PySem.Spec PyProof.Rows L2 Mw
abbrev sWhole : Stmt := topS 15
abbrev sAll : Stmt := topS 16
theorem scWhole : FnScope ["_law_thing_here"] ["_law_thing_here"] (defScope sWhole) := ⟨rfl, rfl, rfl, by decide +kernel, rfl, by decide +kernel, by decide +kernel⟩
theorem scAll : FnScope ["_law_thing_here", "_law_most", "_law_codes", "_law_sign"] ["_law_thing_here", "_law_most", "_law_codes"] (defScope sAll) := ⟨rfl, rfl, rfl, by decide +kernel, rfl, by decide +kernel, by decide +kernel⟩
def okC (codes : List Int) (c : Nat) : Bool := (decide ((97 : Int) ≤ (c : Int)) && decide ((c : Int) ≤ 122)) || inV (.int (c : Int)) (codes.map V.int)
def lAll (m : Int) (codes : List Int) : PyData → Bool
  | .str z => (!decide (V.str z = V.str (Str.ofString "")) && !decide (m < (z.length : Int))) && z.cps.toList.all (okC codes)
  | _ => false
def spAll (K : PySem.W.Frag) : Sp := fun vs H Q _ => ∃ (x : V) (d : PyData) (m : Int) (cc : Addr) (codes : List Int), vs = [x, .int m, .ref cc] ∧ Dp K H x d ∧ short d ∧ fine d = true ∧ SqL K H cc (codes.map V.int) ∧ ∀ H', Same H H' → Q (.bl (lAll m codes d)) H'
/-- a list comprehension over a text -/
theorem lc_text {x : Str} {g : TG} {tt : TT} {te : TE} {vs : List Nat} {σ : L2.St} {H1 : Hp} {D : Addr} {Qd : Hp → Prop} (Pv : Nat → Hp → Prop) (h0 : Pv 0 (upd H1 D (.lst [])))
    (hs : ∀ j c H, x.cps.toList[j]? = some c → Pv j H → g (.str ⟨#[c]⟩) (wipe σ vs) H fun σ2 H2 => wipe σ2 vs = wipe σ vs ∧ tt σ2 H2 fun b H3 =>
      if b = true then te σ2 H3 fun y H4 => ∃ acc, H4 D = some (.lst acc) ∧ acc.length < sizeLine ∧ Pv (j + 1) (upd H4 D (.lst (acc ++ [y]))) else Pv (j + 1) H3) (hd : ∀ H, Pv x.cps.size H → Qd H) :
    ∃ W : Nat → Nat → Hp → Prop, (∃ m, W 0 m (upd H1 D (.lst []))) ∧ ∀ i m H, W i m H →
      ((Its x).stop i H ∧ Qd H) ∨ ((Its x).go i H ∧ ∃ Nx : Hp → Prop, (∀ H', Nx H' → ∃ m', m' < m ∧ W (i + 1) m' H') ∧ ∀ v H', (Its x).yld i H v H' → g v (wipe σ vs) H' fun σ2 H2 => wipe σ2 vs = wipe σ vs ∧ tt σ2 H2 fun b H3 =>
        if b = true then te σ2 H3 fun y H4 => ∃ acc, H4 D = some (.lst acc) ∧ acc.length < sizeLine ∧ Nx (upd H4 D (.lst (acc ++ [y]))) else Nx H3) := by
  refine ⟨fun i m H => i + m = x.cps.size ∧ Pv i H, ⟨x.cps.size, by omega, h0⟩, fun i m H w => ?_⟩
  obtain ⟨e, pv⟩ := w
  by_cases hi : i < x.cps.size
  · refine .inr ⟨hi, fun H' => Pv (i + 1) H', fun H' n => ⟨m - 1, by omega, by omega, n⟩, fun v H' y => ?_⟩
    obtain ⟨rfl, c, hc, rfl⟩ := y
    exact hs i c H' (by rw [Array.getElem?_toList]; exact hc) pv
  · have e2 : i = x.cps.size := by omega
    subst e2
    exact .inl ⟨Nat.le_refl _, hd H pv⟩
theorem dpSigns {K : PySem.W.Frag} {H : Hp} : ∀ l : List Nat, DpAll K H (l.map fun c => V.str ⟨#[c]⟩) (l.map fun c => PyData.str ⟨#[c]⟩)
  | [] => .nil
  | c :: r => .cons (.str _) (dpSigns r)
theorem shSigns0 : ∀ {l : List Nat}, (∀ c ∈ l, c < 128) → PyData.canLayAll0 (l.map fun c => PyData.str ⟨#[c]⟩) = true ∧ PyData.depthAll (l.map fun c => PyData.str ⟨#[c]⟩) = 0
  | [], _ => ⟨rfl, rfl⟩
  | c :: r, h => by
    obtain ⟨a, b⟩ := shSigns0 (l := r) fun x hx => h x (List.mem_cons_of_mem _ hx)
    have hc := h c (by simp)
    have so : PyData.strOk ⟨#[c]⟩ = true := strOk_of (by simpa using hc)
    exact ⟨by simp only [List.map_cons, PyData.canLayAll0, PyData.canLay0, so, a, Bool.and_self], by simp only [List.map_cons, PyData.depthAll, PyData.depth, b]; rfl⟩
theorem shSigns {l : List Nat} (h : ∀ c ∈ l, c < 128) : SeqAt.shaped (.list (l.map fun c => PyData.str ⟨#[c]⟩)) = true := by
  obtain ⟨a, b⟩ := shSigns0 h
  show (PyData.canLay0 (.list (l.map fun c => PyData.str ⟨#[c]⟩)) && decide (PyData.depth (.list (l.map fun c => PyData.str ⟨#[c]⟩)) ≤ 64)) = true
  rw [Bool.and_eq_true]
  exact ⟨by simp only [PyData.canLay0]; exact a, decide_eq_true (by simp only [PyData.depth, b]; decide)⟩
theorem eqvNilS (l : List Nat) : PyData.eqv (.list (l.map fun c => PyData.str ⟨#[c]⟩)) (.list []) = decide (l = []) := by
  cases l with
  | nil => simp [PyData.eqv, PyData.eqvAll]
  | cons n r => simp [PyData.eqv, PyData.eqvAll]
theorem byR2 {A R G : Prop} (main : (A → R) → G) (rest : A → R) : G := main rest
section
variable {P : Program} {w : World} {K : PySem.W.Frag} {mg : Str → Option Value} {base : Heap}
theorem ok_whole {f c : Addr} {fd : FuncData} {k : Nat} (D : Def K "_law_whole" sWhole f c fd) (t : Txt2 mg) : FnOk P w K mg base CX0 (k + 1) f fd ["_law_thing_here"] (spNum K) := by
  refine D.ok scWhole (fun vs H Q E h => ?_) (fun A outer s H vs Q E hr h => ?_)
  · obtain ⟨x, d, rfl, _⟩ := h
    rfl
  · obtain ⟨x, d, rfl, hd, q⟩ := h
    refine ⟨_, (pss_one (ps_ret (pe_and (pe_callB call_isi (by rfl) t.isi boot_isinstance (pa_cons (pv 0) (pa_cons (pe_bltn (v := .ty "int") (by rfl) t.int PyProof.Rows.boot_int rfl) pa_nil))) (pe_one (pe_not (pe_callB call_isi (by rfl) t.isi boot_isinstance (pa_cons (pv 0) (pa_cons (pe_bltn (v := .ty "bool") (by rfl) t.bool (by decide +kernel) rfl) pa_nil)))))))), ?_⟩
    refine ⟨x, rfl, x, .ty "int", _, _, isI d, rfl, .ty _, tyX hd, kit_ty (kitI d), isI d, rfl, ?_⟩
    rw [isNum_eq] at q
    cases hi : isI d with
    | false =>
      rw [hi] at q
      exact iteF q
    | true =>
      rw [hi] at q
      refine iteT ?_
      exact ⟨x, rfl, x, .ty "bool", _, _, isB d, rfl, .ty _, tyX hd, kit_ty (kitBo d), isB d, rfl, q⟩
theorem ok_all {f c : Addr} {fd : FuncData} {k : Nat} (D : Def K "_law_all" sAll f c fd) (t : Txt2 mg) : FnOk P w K mg base CX0 (k + 1) f fd ["_law_thing_here", "_law_most", "_law_codes"] (spAll K) := by
  refine D.ok scAll (fun vs H Q E h => ?_) (fun A outer s H vs Q E hr h => ?_)
  · obtain ⟨x, d, m, cc, codes, rfl, _⟩ := h
    rfl
  · obtain ⟨x, d, m, cc, codes, rfl, hd, hsh, hfi, hcc, q⟩ := h
    have hu64 := hr.units
    refine ⟨_, (pss_cons (ps_if (PW.pt (pw_or (pt_not (pt_val (pe_callB call_isi (by rfl) t.isi boot_isinstance (pa_cons (pv 0) (pa_cons (pe_bltn (v := .ty "str") (by rfl) t.str PyProof.Rows.boot_str rfl) pa_nil))))) (pw_or (pt_cmpR op_eq (pv 0) pe_str (nomark _)) (pw_or1 (pt_cmpR op_gt (pe_callB call_len_str (by rfl) t.len PySem.boot_len (pa_cons (pv 0) pa_nil)) (pv 1) (nomark _))))))
        (pss_one (ps_ret pe_bl))
        pss_nil)
      (pss_one (ps_ret (pe_cmpR (show OpR _ _ (rEqD K) from op_eqD hu64) (pe_lc (own := [("_law_sign", 3)]) (g := gName 3) rfl scAll.nd (pi_str (pv 0)) (blkOk_by (N := ["_law_thing_here", "_law_most", "_law_codes", "_law_sign"]) (sc := defScope sAll) (by decide +kernel)) (fun _ _ _ _ _ => (pg_name (i := 3) scAll.nd rfl (Or.inl rfl))) (fun _ _ _ _ _ => (pts_one (PW.pt (pw_and (pt_not (pt_chain op_le op_le pe_int (pe_callB call_ord (by rfl) t.ord boot_ord (pa_cons (pv 3) pa_nil)) pe_int)) (pw_and1 (pt_cmpR (show OpR _ _ (rIn K true) from op_notIn_seq) (pe_callB call_ord (by rfl) t.ord boot_ord (pa_cons (pv 3) pa_nil)) (pv 2) rfl)))))) (fun _ _ _ _ _ => (pv 3))) (pe_lst pa_nil) (nomark _))))), ?_⟩
    refine ⟨x, rfl, x, .ty "str", _, _, isS d, rfl, .ty _, tyX hd, kit_ty (kitS d), isS d, rfl, ?_⟩
    have other : isS d = false → lAll m codes d = false := by cases d <;> (intro h; first | rfl | cases h)
    cases hs : isS d with
    | false =>
      have := q H (Same.refl H)
      rw [other hs] at this
      exact iteT (iteT this)
    | true =>
      refine iteF ?_
      obtain ⟨z, rfl⟩ : ∃ z, d = .str z := by cases d <;> first | exact ⟨_, rfl⟩ | cases hs
      cases hd
      have hz : z.length ≤ sizeLine := by
        have h1 : z.length ≤ 1000 := hsh
        rw [sizeLine_eq]; omega
      refine ⟨.str z, rfl, rfl, _, rfl, ?_⟩
      have q' : ∀ H', Same H H' → Q (.bl ((!decide (V.str z = V.str (Str.ofString "")) && !decide (m < (z.length : Int))) && z.cps.toList.all (okC codes))) H' := q
      cases h1 : decide (V.str z = V.str (Str.ofString "")) with
      | true =>
        rw [h1] at q'
        exact iteT (iteT (q' H (Same.refl H)))
      | false =>
        rw [h1] at q'
        refine iteF ⟨.str z, rfl, z, rfl, hz, _, rfl, _, _, rfl, rfl, _, rfl, ?_⟩
        cases h2 : decide (m < (z.length : Int)) with
        | true =>
          rw [h2] at q'
          exact iteT (q' H (Same.refl H))
        | false =>
          rw [h2] at q'
          refine iteF ⟨.str z, rfl, z, rfl, fun D nD => ?_⟩
          refine lc_text (fun j Hc => Same H Hc ∧ Hc D = some (.lst (((z.cps.toList.take j).filter fun c => !okC codes c).map fun c => V.str ⟨#[c]⟩)) ∧ j ≤ z.cps.size) ⟨?_, upd_same, Nat.zero_le _⟩ (fun j c Hc hc pv => ?_) (fun Hc pv => ?_)
          · intro b o e
            rw [upd_ne (ne_of_none e nD)]
            exact e
          · obtain ⟨sm, hD, hj⟩ := pv
            have hjl : j < z.cps.toList.length := (List.getElem?_eq_some_iff.mp hc).1
            have tk : ((z.cps.toList.take (j + 1)).filter fun c => !okC codes c) = ((z.cps.toList.take j).filter fun c => !okC codes c) ++ (if (!okC codes c) = true then [c] else []) := by
              rw [List.take_add_one, hc, List.filter_append]
              congr 1
              show List.filter _ [c] = _
              rw [List.filter_cons, List.filter_nil]
            have hj1 : j + 1 ≤ z.cps.size := by
              have : z.cps.toList.length = z.cps.size := by simp
              omega
            refine ⟨wipe_set _ 3 _, ?_⟩
            have fl : (codes.map V.int).all flatV = true := by
              rw [List.all_map, List.all_eq_true]
              exact fun _ _ => rfl
            have hlen : (((z.cps.toList.take j).filter fun c => !okC codes c).map fun c => V.str ⟨#[c]⟩).length < sizeLine := by
              rw [List.length_map]
              have h1 := List.length_filter_le (fun c => !okC codes c) (z.cps.toList.take j)
              have h2 : (z.cps.toList.take j).length ≤ z.cps.toList.length := by rw [List.length_take]; omega
              have h3 : z.cps.toList.length = z.length := by simp [Str.length]
              have h4 : z.length ≤ 1000 := hsh
              exact small1000 (by omega)
            have okc : okC codes c = ((decide ((97 : Int) ≤ (c : Int)) && decide ((c : Int) ≤ 122)) || inV (.int (c : Int)) (codes.map V.int)) := rfl
            refine ⟨.str ⟨#[c]⟩, rfl, ⟨#[c]⟩, rfl, rfl, _, _, rfl, rfl, _, rfl, ?_⟩
            apply byR2 (A := (decide ((97 : Int) ≤ (c : Int)) && decide ((c : Int) ≤ 122)) = false)
            · intro look
              cases hA : decide ((97 : Int) ≤ (((⟨#[c]⟩ : Str).cps.getD 0 0 : Nat) : Int)) with
              | false => exact iteF ⟨false, rfl, iteT (look (by rw [show decide ((97 : Int) ≤ (c : Int)) = false from hA, Bool.false_and]))⟩
              | true =>
                refine iteT ⟨_, _, rfl, rfl, _, rfl, ?_⟩
                cases hB : decide ((((⟨#[c]⟩ : Str).cps.getD 0 0 : Nat) : Int) ≤ 122) with
                | false => exact iteT (look (by rw [show decide ((c : Int) ≤ 122) = false from hB, Bool.and_false]))
                | true =>
                  have e : okC codes c = true := by rw [okc, show decide ((97 : Int) ≤ (c : Int)) = true from hA, show decide ((c : Int) ≤ 122) = true from hB]; rfl
                  refine iteF (iteF ⟨sm, ?_, hj1⟩)
                  rw [tk, e, hD]
                  simp
            · intro hAB
              refine ⟨.str ⟨#[c]⟩, rfl, ⟨#[c]⟩, rfl, rfl, _, rfl, cc, _, rfl, .inl (sm.seq hcc), rfl, fl, _, rfl, ?_⟩
              have e : okC codes c = inV (.int (c : Int)) (codes.map V.int) := by rw [okc, hAB, Bool.false_or]
              cases hI : inV (.int (c : Int)) (codes.map V.int) with
              | true =>
                rw [hI] at e
                have hI' : inV (V.int (((⟨#[c]⟩ : Str).cps.getD 0 0 : Nat) : Int)) (codes.map V.int) = true := hI
                rw [hI']
                refine iteF ⟨sm, ?_, hj1⟩
                rw [tk, e, hD]
                simp
              | false =>
                rw [hI] at e
                have hI' : inV (V.int (((⟨#[c]⟩ : Str).cps.getD 0 0 : Nat) : Int)) (codes.map V.int) = false := hI
                rw [hI']
                refine iteT ⟨_, rfl, _, hD, hlen, fun b o eb => ?_, ?_, hj1⟩
                · rw [upd_ne (ne_of_none eb nD)]
                  exact sm b o eb
                · rw [upd_same, tk, e]
                  simp
          · obtain ⟨sm, hD, hj⟩ := pv
            have tkall : z.cps.toList.take z.cps.size = z.cps.toList := List.take_of_length_le (by simp)
            rw [tkall] at hD
            refine ⟨Nat.zero_le _, fun p np => ?_⟩
            have hp : (upd Hc p (.lst [])) p = some (.lst []) := upd_same
            have hD2 : (upd Hc p (.lst [])) D = some (.lst ((z.cps.toList.filter fun c => !okC codes c).map fun c => V.str ⟨#[c]⟩)) := by rw [upd_ne (ne_of_none hD np)]; exact hD
            have sm2 : Same H (upd Hc p (.lst [])) := fun b o e => by rw [upd_ne (ne_of_none (sm b o e) np)]; exact sm b o e
            generalize upd Hc p (.lst []) = H5 at hp hD2 sm2 ⊢
            refine ⟨.list ((z.cps.toList.filter fun c => !okC codes c).map fun c => PyData.str ⟨#[c]⟩), .list [], .lst (.inl (.inl hD2)) (dpSigns _), .lst (.inl (.inl hp)) .nil, shSigns fun c hc => ?_, by decide +kernel, ?_⟩
            · have h1 : (z.cps.toList.all fun c => decide (c < 128)) = true := by simpa [fine] using hfi
              exact of_decide_eq_true (List.all_eq_true.mp h1 c (List.mem_filter.mp hc).1)
            · have e : PyData.eqv (.list ((z.cps.toList.filter fun c => !okC codes c).map fun c => PyData.str ⟨#[c]⟩)) (.list []) = z.cps.toList.all (okC codes) := by
                rw [eqvNilS]
                by_cases ha : z.cps.toList.all (okC codes) = true
                · rw [ha]
                  refine decide_eq_true ?_
                  rw [List.filter_eq_nil_iff]
                  intro c hc
                  rw [List.all_eq_true.mp ha c hc]
                  simp
                · have hf : z.cps.toList.all (okC codes) = false := by simpa using ha
                  rw [hf]
                  refine decide_eq_false fun hn => ha ?_
                  rw [List.filter_eq_nil_iff] at hn
                  rw [List.all_eq_true]
                  intro c hc
                  have := hn c hc
                  simpa using this
              rw [e]
              exact q' H5 sm2
end
end K01

namespace K01
open PySem PySem.Spec PyProof.Rows L2 Mw
abbrev sDue : Stmt := topS 17
theorem scDue : FnScope ["_law_thing_here", "_law_called"] ["_law_thing_here"] (defScope sDue) := ⟨rfl, rfl, rfl, by decide +kernel, rfl, by decide +kernel, by decide +kernel⟩
theorem okC_nil (c : Nat) : okC [] c = small c := by
  unfold okC small
  rw [show inV (V.int (c : Int)) (([] : List Int).map V.int) = false from rfl, Bool.or_false]
  congr 1
  · exact decide_eq_decide.mpr (by omega)
  · exact decide_eq_decide.mpr (by omega)
theorem okC_32 (c : Nat) : okC [32] c = (small c || decide (c = 32)) := by
  have e : inV (V.int (c : Int)) (([32] : List Int).map V.int) = decide (c = 32) := by
    show (eqV (V.int 32) (V.int (c : Int)) || false) = _
    rw [Bool.or_false]
    show (decide ((32 : Int) = (c : Int)) : Bool) = _
    exact decide_eq_decide.mpr (by omega)
  unfold okC small
  rw [e]
  congr 1
  congr 1
  · exact decide_eq_decide.mpr (by omega)
  · exact decide_eq_decide.mpr (by omega)
theorem emptyS (z : Str) : decide (V.str z = V.str (Str.ofString "")) = decide (z.length = 0) := by
  refine decide_eq_decide.mpr ⟨fun h => ?_, fun h => ?_⟩
  · injection h with h1
    rw [h1]
    decide +kernel
  · have e : z = Str.ofString "" := by
      have h2 : z.cps = #[] := Array.eq_empty_of_size_eq_zero h
      cases z with
      | mk cps =>
        have h3 : cps = #[] := h2
        rw [h3]
        decide +kernel
    rw [e]
theorem all8 (d : PyData) : lAll 8 [] d = isWord d := by
  cases d with
  | str z =>
    show ((!decide (V.str z = V.str (Str.ofString "")) && !decide ((8 : Int) < (z.length : Int))) && z.cps.toList.all (okC [])) = ((decide (1 ≤ z.length) && decide (z.length ≤ 8)) && z.cps.toList.all small)
    rw [emptyS, show okC [] = small from funext okC_nil]
    congr 1
    congr 1
    · by_cases h : z.length = 0
      · rw [decide_eq_true h, decide_eq_false (by omega)]; rfl
      · rw [decide_eq_false h, decide_eq_true (by omega)]; rfl
    · by_cases h : z.length ≤ 8
      · rw [decide_eq_true h, decide_eq_false (by omega)]; rfl
      · rw [decide_eq_false h, decide_eq_true (by omega)]; rfl
  | _ => rfl
theorem all12 (d : PyData) : lAll 12 [32] d = isLet d := by
  cases d with
  | str z =>
    show ((!decide (V.str z = V.str (Str.ofString "")) && !decide ((12 : Int) < (z.length : Int))) && z.cps.toList.all (okC [32])) = ((decide (1 ≤ z.length) && decide (z.length ≤ 12)) && z.cps.toList.all (fun c => small c || decide (c = 32)))
    rw [emptyS, show okC [32] = (fun c => small c || decide (c = 32)) from funext okC_32]
    congr 1
    congr 1
    · by_cases h : z.length = 0
      · rw [decide_eq_true h, decide_eq_false (by omega)]; rfl
      · rw [decide_eq_false h, decide_eq_true (by omega)]; rfl
    · by_cases h : z.length ≤ 12
      · rw [decide_eq_true h, decide_eq_false (by omega)]; rfl
      · rw [decide_eq_false h, decide_eq_true (by omega)]; rfl
  | _ => rfl
def due (d : PyData) : List V := [.bl (isNum d), .bl (isWord d), .bl (isLet d), .bl (isNam d)]
def dueD (d : PyData) : PyData := .tuple [.bool (isNum d), .bool (isWord d), .bool (isLet d), .bool (isNam d)]
def spDue (K : PySem.W.Frag) : Sp := fun vs H Q _ => ∃ (x : V) (d : PyData), vs = [x] ∧ Dp K H x d ∧ Gd d ∧ ∀ (p : Addr) (H' : Hp), Same H H' → H' p = some (.tup (due d)) → Q (.ref p) H'
theorem byR3 {R : Hp → Bool → Prop} {A : Hp → Bool → Prop} {G : Prop} (main : (∀ H b, A H b → R H b) → G) (rest : ∀ H b, A H b → R H b) : G := main rest
theorem fineAll_mem {y : PyData} : ∀ {xs : List PyData}, fineAll xs = true → y ∈ xs → fine y = true
  | [], _, hy => by cases hy
  | x :: xs, h, hy => by
    have h' : fine x = true ∧ fineAll xs = true := by simpa [fineAll] using h
    rcases List.mem_cons.mp hy with e | e
    · rw [e]; exact h'.1
    · exact fineAll_mem h'.2 e
section
variable {P : Program} {w : World} {K : PySem.W.Frag} {mg : Str → Option Value} {base : Heap}
theorem Same.new {H : Hp} {p : Addr} {o : HO} (n : H p = none) : Same H (upd H p o) := fun b u e => by rw [upd_ne (ne_of_none e n)]; exact e
theorem ok_due {f c fW fA : Addr} {fd fdW fdA : FuncData} (D : Def K "_law_due" sDue f c fd) (t : Txt2 mg) (kWh : PySem.W.keepIn K (.ref fW) = true) (bWh : Binds K fdW ["_law_thing_here"] []) (gWh : mg "_law_whole" = some (.ref fW)) (GWh : FnOk P w K mg base CX0 1 fW fdW ["_law_thing_here"] (spNum K))
    (kAl : PySem.W.keepIn K (.ref fA) = true) (bAl : Binds K fdA ["_law_thing_here", "_law_most", "_law_codes"] []) (gAl : mg "_law_all" = some (.ref fA)) (GAl : FnOk P w K mg base CX0 1 fA fdA ["_law_thing_here", "_law_most", "_law_codes"] (spAll K)) :
    FnOk P w K mg base CX0 2 f fd ["_law_thing_here"] (spDue K) := by
  refine D.ok scDue (fun vs H Q E h => ?_) (fun A outer s H vs Q E hr h => ?_)
  · obtain ⟨x, d, rfl, _⟩ := h
    rfl
  · obtain ⟨x, d, rfl, hd, gd, q⟩ := h
    have hr1 : Room 1 _ := hr
    refine ⟨_, (pss_cons (ps_set (i := 1) scDue.nd rfl (by first | exact Or.inl rfl | exact Or.inr rfl) (pe_and (pe_callB call_isi (by rfl) t.isi boot_isinstance (pa_cons (pv 0) (pa_cons (pe_bltn (v := .ty "tuple") (by rfl) t.tup (by decide +kernel) rfl) pa_nil))) (pe_one (pe_cmpR op_eq (pe_callB call_len_seq (by rfl) t.len PySem.boot_len (pa_cons (pv 0) pa_nil)) pe_int (nomark _)))))
      (pss_cons (ps_if (pt_val (pv 1))
        (pss_one (ps_set (i := 1) scDue.nd rfl (by first | exact Or.inl rfl | exact Or.inr rfl) (pe_and (pe_call GWh hr1 (by rfl) gWh kWh bWh .nil pass0 (pa_cons (pe_ix ix_tup (pv 0) pe_int (fun _ _ => rfl)) pa_nil)) (pe_and (pe_cmpR op_gt (pe_ix ix_tup (pv 0) pe_int (fun _ _ => rfl)) pe_int (nomark _)) (pe_one (pe_call GAl hr (by rfl) gAl kAl bAl .nil pass0 (pa_cons (pe_ix ix_tup (pv 0) pe_int (fun _ _ => rfl)) (pa_cons pe_int (pa_cons (pe_lst pa_nil) pa_nil)))))))))
        pss_nil)
      (pss_one (ps_ret (pe_tup (pa_cons (pe_call GWh hr1 (by rfl) gWh kWh bWh .nil pass0 (pa_cons (pv 0) pa_nil)) (pa_cons (pe_call GAl hr (by rfl) gAl kAl bAl .nil pass0 (pa_cons (pv 0) (pa_cons pe_int (pa_cons (pe_lst pa_nil) pa_nil)))) (pa_cons (pe_call GAl hr (by rfl) gAl kAl bAl .nil pass0 (pa_cons (pv 0) (pa_cons pe_int (pa_cons (pe_lst (pa_cons pe_int pa_nil)) pa_nil)))) (pa_cons (pv 1) pa_nil))))))))), ?_⟩
    refine ⟨x, rfl, x, .ty "tuple", _, _, isT d, rfl, .ty _, tyX hd, kit_ty (kitT d), isT d, rfl, ?_⟩
    have rest : ∀ (H2 : Hp) (b : Bool), Same H H2 ∧ b = isNam d → tRet (tTup (tCons (tCall (spNum K) [] E0 (tCons (tVar 0) tNil)) (tCons (tCall (spAll K) [] E0 (tCons (tVar 0) (tCons (tC (V.int 8)) (tCons (tLst tNil) tNil))))
        (tCons (tCall (spAll K) [] E0 (tCons (tVar 0) (tCons (tC (V.int 12)) (tCons (tLst (tCons (tC (V.int 32)) tNil)) tNil)))) (tCons (tVar 1) tNil))))) { nx := fun x H' => Q V.non H', rt := Q } [some x, some (V.bl b)] H2 := by
      intro H2 b hb
      obtain ⟨sm, rfl⟩ := hb
      refine ⟨x, rfl, x, d, rfl, (Mw.Same.kd sm).dp hd, x, rfl, Nat.zero_le _, fun p1 n1 => ?_⟩
      have sm3 : Same H (upd H2 p1 (.lst [])) := sm.trans (Same.new n1)
      refine ⟨x, d, 8, p1, [], rfl, (Mw.Same.kd sm3).dp hd, gd.sh.1, gd.good.fine, .inl (.inl upd_same), fun H4 sm4 => ?_⟩
      have sm4' : Same H H4 := sm3.trans sm4
      refine ⟨x, rfl, (by show 1 ≤ sizeLine; decide), fun p2 n2 => ?_⟩
      have sm5 : Same H (upd H4 p2 (.lst [V.int 32])) := sm4'.trans (Same.new n2)
      refine ⟨x, d, 12, p2, [32], rfl, (Mw.Same.kd sm5).dp hd, gd.sh.1, gd.good.fine, .inl (.inl upd_same), fun H6 sm6 => ?_⟩
      have sm6' : Same H H6 := sm5.trans sm6
      refine ⟨_, rfl, (by show 4 ≤ sizeLine; decide), fun p np => ?_⟩
      rw [all8, all12]
      exact q p _ (sm6'.trans (Same.new np)) upd_same
    · cases hs : isT d with
      | true =>
        obtain ⟨ds, rfl⟩ : ∃ ds, d = .tuple ds := by cases d <;> first | exact ⟨_, rfl⟩ | cases hs
        cases hd with
        | tup sq al =>
          rename_i a xs
          refine iteT ⟨.ref a, rfl, a, xs, rfl, .inr sq, rfl, ?_⟩
          have hlen : xs.length = ds.length := dpLen al
          by_cases hl : xs.length = 2
          · obtain ⟨v0, v1, rfl⟩ : ∃ v0 v1, xs = [v0, v1] := by
              match xs, hl with
              | [v0, v1], _ => exact ⟨v0, v1, rfl⟩
            cases al with
            | cons a0 al =>
              cases al with
              | cons a1 al =>
                cases al
                rename_i d0 d1
                rw [decide_eq_true (show V.int (([v0, v1] : List V).length : Int) = V.int 2 from rfl)]
                refine ⟨.bl true, rfl, true, rfl, iteT ?_⟩
                refine ⟨.ref a, rfl, a, _, 0, v0, rfl, rfl, sq, atI_nat (j := 0) rfl, v0, d0, rfl, a0, isNum d0, rfl, ?_⟩
                have f1 : fine d1 = true := fineAll_mem (xs := [d0, d1]) (by simpa [fine] using gd.good.fine) (by simp)
                have s1 : short d1 := gd.sh.2 _ rfl d1 (by simp)
                cases h0 : isNum d0 with
                | true =>
                  obtain ⟨i, rfl⟩ : ∃ i, d0 = .int i := by cases d0 <;> first | exact ⟨_, rfl⟩ | cases h0
                  cases a0
                  refine iteT ⟨.ref a, rfl, a, _, 0, .int i, rfl, rfl, sq, atI_nat (j := 0) rfl, _, _, rfl, rfl, decide (0 < i), rfl, ?_⟩
                  cases h1 : decide (0 < i) with
                  | true =>
                    refine iteT ⟨.ref a, rfl, a, _, 1, v1, rfl, rfl, sq, atI_nat (j := 1) rfl, Nat.zero_le _, fun p np => ?_⟩
                    refine ⟨v1, d1, 8, p, [], rfl, (Kd.new np).dp a1, s1, f1, .inl (.inl upd_same), fun H2 sm2 => ?_⟩
                    have sm : Same H H2 := (Same.new np).trans sm2
                    have e : lAll 8 [] d1 = isNam (.tuple [.int i, d1]) := by
                      show lAll 8 [] d1 = (decide (1 ≤ i) && isWord d1)
                      have : decide (1 ≤ i) = true := decide_eq_true (by have := of_decide_eq_true h1; omega)
                      rw [this, all8]; rfl
                    generalize lAll 8 [] d1 = b at e
                    exact rest H2 b ⟨sm, e⟩
                  | false =>
                    have e : false = isNam (.tuple [.int i, d1]) := by
                      show false = (decide (1 ≤ i) && isWord d1)
                      have : decide (1 ≤ i) = false := decide_eq_false (by have := of_decide_eq_false h1; omega)
                      rw [this]; rfl
                    exact iteF (rest H false ⟨Same.refl H, e⟩)
                | false =>
                  have e : false = isNam (.tuple [d0, d1]) := by
                    cases d0 <;> first | rfl | cases h0
                  exact iteF (rest H false ⟨Same.refl H, e⟩)
          · have hl' : ¬ (xs.length : Int) = 2 := by omega
            rw [decide_eq_false (show ¬ V.int (xs.length : Int) = V.int 2 from fun h => hl' (V.int.inj h))]
            have e : false = isNam (.tuple ds) := by
              match ds, hlen with
              | [], _ => rfl
              | [_], _ => rfl
              | [d0, d1], h => exact absurd h hl
              | _ :: _ :: _ :: _, _ => rfl
            refine ⟨.bl false, rfl, false, rfl, iteF (rest H false ⟨Same.refl H, e⟩)⟩
      | false =>
        have e : false = isNam d := by cases d <;> first | rfl | cases hs
        refine iteF ⟨.bl false, rfl, false, rfl, iteF (rest H false ⟨Same.refl H, e⟩)⟩
end
end K01

namespace K01
open PySem PySem.Spec PyProof.Rows L2 Mw
abbrev sLaw : Stmt := topS 18
theorem scLaw : FnScope ["_law_script", "_law_feed_here", "_law_k", "_law_thing_here", "_law_stayed", "_law_due_here", "_law_turn"] ["_law_script"] (defScope sLaw) := ⟨rfl, rfl, rfl, by decide +kernel, rfl, by decide +kernel, by decide +kernel⟩
def spLaw (K : PySem.W.Frag) (T : List Addr) : Sp := fun vs H Q _ => ∃ (a : Addr) (ns : List Int), vs = [.ref a] ∧ SqL K H a (ns.map V.int) ∧ ns.length ≤ 63 ∧ Tb T H ∧ ∀ H', Q (.bl true) H'
theorem Gd.rp {K : PySem.W.Frag} {H : Hp} {x : V} {d : PyData} (g : Good d) (h : Dp K H x d) : Dp K H x d ∧ d.showable = true ∧ d.canLay0 = true ∧ d.depth ≤ 32 ∧ d.shown.length ≤ 16000000 := by
  obtain ⟨a, b, c⟩ := fine_show g.fine
  exact ⟨h, a, b, Nat.le_trans g.dp (by decide), Nat.le_trans c (Nat.le_trans g.wt (by decide))⟩
theorem good_due (d : PyData) : Good (dueD d) := ⟨by simp [dueD, fine, fineAll], by simp [dueD, wt, wtAll], by simp [dueD, PyData.depth, PyData.depthAll]⟩
theorem dp_due {K : PySem.W.Frag} {H : Hp} {p : Addr} {d : PyData} (h : H p = some (.tup (due d))) : Dp K H (.ref p) (dueD d) := .tup (.inl (.inl h)) (.cons (.bl _) (.cons (.bl _) (.cons (.bl _) (.cons (.bl _) .nil))))
section
variable {P : Program} {w : World} {K : PySem.W.Frag} {mg : Str → Option Value} {base : Heap} {T : List Addr}
theorem ok_law {f c fF fTh fDu fNu fWo fLe fNa : Addr} {fd fdF fdTh fdDu fdNu fdWo fdLe fdNa : FuncData} (D : Def K "law" sLaw f c fd) (t : Txt2 mg)
    (kF : PySem.W.keepIn K (.ref fF) = true) (bF : Binds K fdF ["_law_script"] []) (gF : mg "_law_feed" = some (.ref fF)) (GF : FnOk P w K mg base CX0 1 fF fdF ["_law_script"] (spFeed K))
    (kTh : PySem.W.keepIn K (.ref fTh) = true) (bTh : Binds K fdTh ["_law_feed_here"] []) (gTh : mg "_law_thing" = some (.ref fTh)) (GTh : FnOk P w K mg base CX0 4 fTh fdTh ["_law_feed_here"] (spNL K))
    (kDu : PySem.W.keepIn K (.ref fDu) = true) (bDu : Binds K fdDu ["_law_thing_here"] []) (gDu : mg "_law_due" = some (.ref fDu)) (GDu : FnOk P w K mg base CX0 2 fDu fdDu ["_law_thing_here"] (spDue K))
    (kNu : PySem.W.keepIn K (.ref fNu) = true) (bNu : Binds K fdNu ["thing"] []) (gNu : mg "is_number" = some (.ref fNu)) (GNu : FnOk P w K mg base CX0 1 fNu fdNu ["thing"] (spNum K))
    (kWo : PySem.W.keepIn K (.ref fWo) = true) (bWo : Binds K fdWo ["thing"] []) (gWo : mg "is_word" = some (.ref fWo)) (GWo : FnOk P w K mg base CX0 3 fWo fdWo ["thing"] (spWrd K T))
    (kLe : PySem.W.keepIn K (.ref fLe) = true) (bLe : Binds K fdLe ["thing"] []) (gLe : mg "is_letters" = some (.ref fLe)) (GLe : FnOk P w K mg base CX0 3 fLe fdLe ["thing"] (spLet K T))
    (kNa : PySem.W.keepIn K (.ref fNa) = true) (bNa : Binds K fdNa ["thing"] []) (gNa : mg "is_name" = some (.ref fNa)) (GNa : FnOk P w K mg base CX0 4 fNa fdNa ["thing"] (spNam K T)) :
    FnG P w K mg base 5 f fd ["_law_script"] (spLaw K T) := by
  refine D.okG scLaw (fun vs H Q E h => ?_) (fun A outer s H vs Q E hr hg h => ?_)
  · obtain ⟨a, ns, rfl, _⟩ := h
    rfl
  · obtain ⟨a, ns, rfl, hS, hl, tb, q⟩ := h
    have hr1 : Room 1 _ := hr.mono (by decide)
    have hr2 : Room 2 _ := hr.mono (by decide)
    have hr3 : Room 3 _ := hr.mono (by decide)
    have hu64 := hr.units
    have hgu : (A.deeper (envOfC "law" (defScope sLaw) s.heap.objs.size f (.ref c))).guards = some [] := hg
    refine ⟨_, (pss_cons (ps_set (i := 1) scLaw.nd rfl (by first | exact Or.inl rfl | exact Or.inr rfl) (pe_call GF hr1 (by rfl) gF kF bF .nil pass0 (pa_cons (pv 0) pa_nil)))
      (pss_cons (ps_for PassesOwn.never rfl (pi_range1 (by rfl) t.range (pa_cons pe_int pa_nil)) (pg_name (i := 2) scLaw.nd rfl (Or.inl rfl))
        (pss_cons (ps_set (i := 3) scLaw.nd rfl (by first | exact Or.inl rfl | exact Or.inr rfl) (pe_call GTh hr (by rfl) gTh kTh bTh .nil pass0 (pa_cons (pv 1) pa_nil)))
      (pss_cons (ps_set (i := 4) scLaw.nd rfl (by first | exact Or.inl rfl | exact Or.inr rfl) (pe_callB (call_repr hgu hu64) (by rfl) t.repr boot_repr (pa_cons (pv 3) pa_nil)))
      (pss_cons (ps_set (i := 5) scLaw.nd rfl (by first | exact Or.inl rfl | exact Or.inr rfl) (pe_callB (call_repr hgu hu64) (by rfl) t.repr boot_repr (pa_cons (pe_call GDu hr2 (by rfl) gDu kDu bDu .nil pass0 (pa_cons (pv 3) pa_nil)) pa_nil)))
      (pss_cons (ps_for PassesOwn.never rfl (pi_range1 (by rfl) t.range (pa_cons pe_int pa_nil)) (pg_name (i := 6) scLaw.nd rfl (Or.inl rfl))
        (pss_one (ps_if (pt_cmpR op_ne (pe_callB (call_repr hgu hu64) (by rfl) t.repr boot_repr (pa_cons (pe_tup (pa_cons (pe_call GNu hr1 (by rfl) gNu kNu bNu .nil pass0 (pa_cons (pv 3) pa_nil)) (pa_cons (pe_call GWo hr3 (by rfl) gWo kWo bWo .nil pass0 (pa_cons (pv 3) pa_nil)) (pa_cons (pe_call GLe hr3 (by rfl) gLe kLe bLe .nil pass0 (pa_cons (pv 3) pa_nil)) (pa_cons (pe_call GNa hr (by rfl) gNa kNa bNa .nil pass0 (pa_cons (pv 3) pa_nil)) pa_nil))))) pa_nil)) (pv 5) (nomark _))
        (pss_one (ps_ret pe_bl))
        pss_nil)))
      (pss_one (ps_if (pt_cmpR op_ne (pe_callB (call_repr hgu hu64) (by rfl) t.repr boot_repr (pa_cons (pv 3) pa_nil)) (pv 4) (nomark _))
        (pss_one (ps_ret pe_bl))
        pss_nil)))))))
      (pss_one (ps_ret pe_bl)))), ?_⟩
    refine ⟨_, rfl, a, ns, rfl, hS, hl, fun F C H1 nF fd1 sm1 => ?_⟩
    have tb1 : Tb T H1 := fun p hp => by
      obtain ⟨ps, h1, h2⟩ := tb p hp
      exact ⟨ps, sm1 p _ h1, h2⟩
    refine ⟨18, rfl, by decide, by decide, for_range (n := 18) (fun i σ Hc => ∃ v2 v3 v4 v5 v6, σ = [some (.ref a), some (.ref F), v2, v3, v4, v5, v6] ∧ Fd F C ns Hc ∧ Tb T Hc) ⟨none, none, none, none, none, rfl, fd1, tb1⟩ ?_ ?_⟩
    · rintro i σ Hc hi ⟨v2, v3, v4, v5, v6, rfl, fdc, tbc⟩
      refine ⟨_, rfl, F, C, ns, rfl, hl, fdc, fun x d H2 dd gd fd2 ev2 => ?_⟩
      have tb2 : Tb T H2 := ev2.tb fdc tbc
      have rp := Gd.rp gd.good dd
      refine ⟨x, rfl, x, d, rfl, rp.1, rp.2.1, rp.2.2.1, rp.2.2.2.1, rp.2.2.2.2, ?_⟩
      refine ⟨x, rfl, x, d, rfl, dd, gd, fun p H3 sm3 hp => ?_⟩
      have rq := Gd.rp (K := K) (good_due d) (dp_due hp)
      refine ⟨_, _, rfl, rq.1, rq.2.1, rq.2.2.1, rq.2.2.2.1, rq.2.2.2.2, ?_⟩
      have dd3 := (Mw.Same.kd sm3).dp dd
      have fd3 : Fd F C ns H3 := by
        obtain ⟨kvs, hF, fk⟩ := fd2.ex
        exact ⟨⟨kvs, sm3 _ _ hF, fk⟩, sm3 _ _ fd2.cl⟩
      have tb3 : Tb T H3 := fun p hp => by
        obtain ⟨ps, h1, h2⟩ := tb2 p hp
        exact ⟨ps, sm3 p _ h1, h2⟩
      refine ⟨2, rfl, by decide, by decide, for_range (n := 2) (fun j σ Hd => ∃ w6, σ = [some (.ref a), some (.ref F), some (.int (0 + i)), some x, some (.str d.shown), some (.str (dueD d).shown), w6] ∧ Fd F C ns Hd ∧ Tb T Hd ∧ Dp K Hd x d) ⟨v6, rfl, fd3, tb3, dd3⟩ ?_ ?_⟩
      · rintro j σ Hd hj ⟨w6, rfl, fdd, tbd, ddd⟩
        refine ⟨x, rfl, x, d, rfl, ddd, x, rfl, x, d, rfl, ddd, gd.sh.1, tbd, fun H5 g5 => ?_⟩
        have k5 := g5.kd tbd
        refine ⟨x, rfl, x, d, rfl, k5.dp ddd, gd.sh.1, g5.1, fun H6 g6 => ?_⟩
        have k6 := g6.kd g5.1
        refine ⟨x, rfl, x, d, rfl, k6.dp (k5.dp ddd), gd.sh, g6.1, fun H7 g7 => ?_⟩
        have k7 := g7.kd g6.1
        refine ⟨(by show 4 ≤ sizeLine; decide), fun pt npt => ?_⟩
        have fd7 : Fd F C ns H7 := ((fdd.grw tbd g5).grw g5.1 g6).grw g6.1 g7
        have rt := Gd.rp (K := K) (good_due d) (dp_due (K := K) (H := upd H7 pt (.tup (due d))) (p := pt) upd_same)
        refine ⟨.ref pt, dueD d, rfl, rt.1, rt.2.1, rt.2.2.1, rt.2.2.2.1, rt.2.2.2.2, _, rfl, rfl, _, rfl, iteNS rfl ?_⟩
        exact ⟨_, rfl, fd7.new npt, g7.1.new npt, (Kd.new npt).dp (k7.dp (k6.dp (k5.dp ddd)))⟩
      · rintro σ Hd ⟨w6, rfl, fdd, tbd, ddd⟩
        have ru := Gd.rp gd.good ddd
        refine ⟨x, rfl, x, d, rfl, ru.1, ru.2.1, ru.2.2.1, ru.2.2.2.1, ru.2.2.2.2, _, rfl, rfl, _, rfl, iteNS rfl ?_⟩
        exact ⟨_, _, _, _, _, rfl, fdd, tbd⟩
    · rintro σ Hc ⟨v2, v3, v4, v5, v6, rfl, fdc, tbc⟩
      exact q Hc
end
end K01

namespace K01
open PySem PySem.Spec PyProof.Rows L2 Mw
theorem _root_.Mw.tabIn_of {K : PySem.W.Frag} {x : Str} {f c Q : Addr} {oc e : Value} {od dd : Option Addr} {fd : FuncData} {sl sl2 : Array (Option Value)} {vs : Array Value} (a : PySem.W.nsIn K mainGlobals x = some (some (.ref f)))
    (l : K.lookup f = some ⟨oc, od, .func fd, sl⟩) (hc : fd.code = .ref c) (lc : K.lookup c = some ⟨e, dd, .fields vs, sl2⟩) (hv : vs[11]? = some (.ref Q)) : PySem.W.tabIn K x = some (c, Q) := by
  unfold PySem.W.tabIn
  rw [a]
  simp only [l, hc, lc, hv]
theorem all_mk {l : PySem.W.OpenLaw} {w : World} {K : PySem.W.Frag} {h : Heap} {mg : Str → Option Value} {fa f1 f2 f3 f4 f5 f6 f7 f8 f9 f10 f11 f12 f13 f14 f15 c1 c2 c3 c4 c5 c6 c7 c8 c9 c10 c11 c12 c13 c14 c15 PW PL : Addr}
    {od1 an1 od2 an2 od3 an3 od4 an4 od5 an5 od6 an6 od7 an7 od8 an8 od9 an9 od10 an10 od11 an11 od12 an12 od13 an13 od14 an14 od15 an15 : Option Addr} {sl1 sl2 sl3 sl4 sl5 sl6 sl7 sl8 sl9 sl10 sl11 sl12 sl13 sl14 sl15 : Array (Option Value)} {oc1 kV1 dc1 pm1 ct1 oc2 kV2 dc2 pm2 ct2 oc3 kV3 dc3 pm3 ct3 oc4 kV4 dc4 pm4 ct4 oc5 kV5 dc5 pm5 ct5 oc6 kV6 dc6 pm6 ct6 oc7 kV7 dc7 pm7 ct7 oc8 kV8 dc8 pm8 ct8 oc9 kV9 dc9 pm9 ct9 oc10 kV10 dc10 pm10 ct10 oc11 kV11 dc11 pm11 ct11 oc12 kV12 dc12 pm12 ct12 oc13 kV13 dc13 pm13 ct13 oc14 kV14 dc14 pm14 ct14 oc15 kV15 dc15 pm15 ct15 : Value} {tk8 tk12 : Tok} {ue3 ue4 : Value} {ud3 ud4 : Option Addr} {us3 us4 : Array Value} {ul3 ul4 : Array (Option Value)}
    (X : K.In h) (G : h.Ns mainGlobals mg) (hfa : mg "law" = some (.ref fa)) (tW : TabOf K h "is_word") (tL : TabOf K h "is_letters")
    (a1 : PySem.W.nsIn K mainGlobals "is_number" = some (some (.ref f1))) (l1 : K.lookup f1 = some ⟨oc1, od1, .func (PySem.W.fnOf "is_number" "is_number" (defArgs sNum) (defBody sNum) (defScope sNum) .none kV1 dc1 pm1 an1 (.ref c1) ct1), sl1⟩) (d1 : PySem.W.codeIn K (.ref c1) "is_number" = true) (k1 : PySem.W.keepIn K (.ref f1) = true)
    (a2 : PySem.W.nsIn K mainGlobals "is_small" = some (some (.ref f2))) (l2 : K.lookup f2 = some ⟨oc2, od2, .func (PySem.W.fnOf "is_small" "is_small" (defArgs sSml) (defBody sSml) (defScope sSml) .none kV2 dc2 pm2 an2 (.ref c2) ct2), sl2⟩) (d2 : PySem.W.codeIn K (.ref c2) "is_small" = true) (k2 : PySem.W.keepIn K (.ref f2) = true)
    (a3 : PySem.W.nsIn K mainGlobals "is_word" = some (some (.ref f3))) (l3 : K.lookup f3 = some ⟨oc3, od3, .func (PySem.W.fnOf "is_word" "is_word" (defArgs sWrd) (defBody sWrd) (defScope sWrd) .none kV3 dc3 pm3 an3 (.ref c3) ct3), sl3⟩) (d3 : PySem.W.codeIn K (.ref c3) "is_word" = true) (k3 : PySem.W.keepIn K (.ref f3) = true)
    (a4 : PySem.W.nsIn K mainGlobals "is_letters" = some (some (.ref f4))) (l4 : K.lookup f4 = some ⟨oc4, od4, .func (PySem.W.fnOf "is_letters" "is_letters" (defArgs sLet) (defBody sLet) (defScope sLet) .none kV4 dc4 pm4 an4 (.ref c4) ct4), sl4⟩) (d4 : PySem.W.codeIn K (.ref c4) "is_letters" = true) (k4 : PySem.W.keepIn K (.ref f4) = true)
    (a5 : PySem.W.nsIn K mainGlobals "is_name" = some (some (.ref f5))) (l5 : K.lookup f5 = some ⟨oc5, od5, .func (PySem.W.fnOf "is_name" "is_name" (defArgs sNam) (defBody sNam) (defScope sNam) .none kV5 dc5 pm5 an5 (.ref c5) ct5), sl5⟩) (d5 : PySem.W.codeIn K (.ref c5) "is_name" = true) (k5 : PySem.W.keepIn K (.ref f5) = true)
    (a6 : PySem.W.nsIn K mainGlobals "_law_feed" = some (some (.ref f6))) (l6 : K.lookup f6 = some ⟨oc6, od6, .func (PySem.W.fnOf "_law_feed" "_law_feed" (defArgs sFeed) (defBody sFeed) (defScope sFeed) .none kV6 dc6 pm6 an6 (.ref c6) ct6), sl6⟩) (d6 : PySem.W.codeIn K (.ref c6) "_law_feed" = true) (k6 : PySem.W.keepIn K (.ref f6) = true)
    (a7 : PySem.W.nsIn K mainGlobals "_law_draw" = some (some (.ref f7))) (l7 : K.lookup f7 = some ⟨oc7, od7, .func (PySem.W.fnOf "_law_draw" "_law_draw" (defArgs sDraw) (defBody sDraw) (defScope sDraw) .none kV7 dc7 pm7 an7 (.ref c7) ct7), sl7⟩) (d7 : PySem.W.codeIn K (.ref c7) "_law_draw" = true) (k7 : PySem.W.keepIn K (.ref f7) = true)
    (a8 : PySem.W.nsIn K mainGlobals "_law_text" = some (some (.ref f8))) (l8 : K.lookup f8 = some ⟨oc8, od8, .func (PySem.W.fnOf "_law_text" "_law_text" (defArgs sText) (defBody sText) (defScope sText) .none kV8 dc8 pm8 an8 (.ref c8) ct8), sl8⟩) (d8 : PySem.W.codeIn K (.ref c8) "_law_text" = true) (k8 : PySem.W.keepIn K (.ref f8) = true)
    (a9 : PySem.W.nsIn K mainGlobals "_law_name_like" = some (some (.ref f9))) (l9 : K.lookup f9 = some ⟨oc9, od9, .func (PySem.W.fnOf "_law_name_like" "_law_name_like" (defArgs sNL) (defBody sNL) (defScope sNL) .none kV9 dc9 pm9 an9 (.ref c9) ct9), sl9⟩) (d9 : PySem.W.codeIn K (.ref c9) "_law_name_like" = true) (k9 : PySem.W.keepIn K (.ref f9) = true)
    (a10 : PySem.W.nsIn K mainGlobals "_law_thing" = some (some (.ref f10))) (l10 : K.lookup f10 = some ⟨oc10, od10, .func (PySem.W.fnOf "_law_thing" "_law_thing" (defArgs sThing) (defBody sThing) (defScope sThing) .none kV10 dc10 pm10 an10 (.ref c10) ct10), sl10⟩) (d10 : PySem.W.codeIn K (.ref c10) "_law_thing" = true) (k10 : PySem.W.keepIn K (.ref f10) = true)
    (a11 : PySem.W.nsIn K mainGlobals "_law_whole" = some (some (.ref f11))) (l11 : K.lookup f11 = some ⟨oc11, od11, .func (PySem.W.fnOf "_law_whole" "_law_whole" (defArgs sWhole) (defBody sWhole) (defScope sWhole) .none kV11 dc11 pm11 an11 (.ref c11) ct11), sl11⟩) (d11 : PySem.W.codeIn K (.ref c11) "_law_whole" = true) (k11 : PySem.W.keepIn K (.ref f11) = true)
    (a12 : PySem.W.nsIn K mainGlobals "_law_all" = some (some (.ref f12))) (l12 : K.lookup f12 = some ⟨oc12, od12, .func (PySem.W.fnOf "_law_all" "_law_all" (defArgs sAll) (defBody sAll) (defScope sAll) .none kV12 dc12 pm12 an12 (.ref c12) ct12), sl12⟩) (d12 : PySem.W.codeIn K (.ref c12) "_law_all" = true) (k12 : PySem.W.keepIn K (.ref f12) = true)
    (a13 : PySem.W.nsIn K mainGlobals "_law_due" = some (some (.ref f13))) (l13 : K.lookup f13 = some ⟨oc13, od13, .func (PySem.W.fnOf "_law_due" "_law_due" (defArgs sDue) (defBody sDue) (defScope sDue) .none kV13 dc13 pm13 an13 (.ref c13) ct13), sl13⟩) (d13 : PySem.W.codeIn K (.ref c13) "_law_due" = true) (k13 : PySem.W.keepIn K (.ref f13) = true)
    (a14 : PySem.W.nsIn K mainGlobals "is_tuple_of" = some (some (.ref f14))) (l14 : K.lookup f14 = some ⟨oc14, od14, .func (PySem.W.fnOf "is_tuple_of" "is_tuple_of" (defArgs sTof) (defBody sTof) (defScope sTof) .none kV14 dc14 pm14 an14 (.ref c14) ct14), sl14⟩) (d14 : PySem.W.codeIn K (.ref c14) "is_tuple_of" = true) (k14 : PySem.W.keepIn K (.ref f14) = true)
    (a15 : PySem.W.nsIn K mainGlobals "law" = some (some (.ref f15))) (l15 : K.lookup f15 = some ⟨oc15, od15, .func (PySem.W.fnOf "law" "law" (defArgs sLaw) (defBody sLaw) (defScope sLaw) .none kV15 dc15 pm15 an15 (.ref c15) ct15), sl15⟩) (d15 : PySem.W.codeIn K (.ref c15) "law" = true) (k15 : PySem.W.keepIn K (.ref f15) = true)
    (z0 : PySem.W.nsIn K mainGlobals "isinstance" = some none)
    (z1 : PySem.W.nsIn K mainGlobals "int" = some none)
    (z2 : PySem.W.nsIn K mainGlobals "bool" = some none)
    (z3 : PySem.W.nsIn K mainGlobals "str" = some none)
    (z4 : PySem.W.nsIn K mainGlobals "tuple" = some none)
    (z5 : PySem.W.nsIn K mainGlobals "len" = some none)
    (z6 : PySem.W.nsIn K mainGlobals "all" = some none)
    (z7 : PySem.W.nsIn K mainGlobals "range" = some none)
    (z8 : PySem.W.nsIn K mainGlobals "ord" = some none)
    (z9 : PySem.W.nsIn K mainGlobals "repr" = some none)
    (z10 : PySem.W.nsIn K mainGlobals "list" = some none)
    (w8 : PySem.W.nsIn K mainGlobals "WORD_LENGTH" = some (some (.int 8 tk8))) (w12 : PySem.W.nsIn K mainGlobals "LETTERS_LENGTH" = some (some (.int 12 tk12)))
    (u3 : K.lookup c3 = some ⟨ue3, ud3, .fields us3, ul3⟩) (u4 : K.lookup c4 = some ⟨ue4, ud4, .fields us4, ul4⟩) (t3 : us3[11]? = some (.ref PW)) (t4 : us4[11]? = some (.ref PL)) (n3 : K.lookup PW = none) (n4 : K.lookup PL = none) :
    ∃ (fd : FuncData) (cs : List (Addr × Addr)) (sp : Sp), (∀ p ∈ cs, h.get? p.2 = some tb0 ∧ K.lookup p.2 = none ∧ PySem.W.CodeHd h p.1 p.2) ∧
      (∀ (s : Shared) (u : Value), BindsTo s fd ⟨[u], []⟩ [("_law_script", u)]) ∧
      (∀ (H : Hp) (a : Addr) (ns : List Int), ns.length ≤ 63 → (∀ z ∈ ns, Builtin.Int.intBits z ≤ 1048576) → (∀ p ∈ cs, H p.2 = some (.tbl #[])) → SqL K H a (ns.map V.int) → sp [.ref a] H (fun v _ => v = .bl true) fun _ _ _ => False) ∧
      ∀ base : Heap, K.In base → base.Ns mainGlobals mg → (∀ p ∈ cs, GxR.TabB base mg p.1 p.2) → FnG l.prog w K mg base 5 fa fd ["_law_script"] sp := by
  have e := hfa.symm.trans (PySem.W.mg_of X G a15)
  cases e
  have D1 := Def.mk' (st := sNum) l1 d1 k1
  have b1 := D1.binds (ps := ["thing"]) fun _ _ _ _ _ us hl => match us, hl with | [_], _ => rfl
  have g1 := PySem.W.mg_of X G a1
  have D2 := Def.mk' (st := sSml) l2 d2 k2
  have b2 := D2.binds (ps := ["sign"]) fun _ _ _ _ _ us hl => match us, hl with | [_], _ => rfl
  have g2 := PySem.W.mg_of X G a2
  have D3 := Def.mk' (st := sWrd) l3 d3 k3
  have b3 := D3.binds (ps := ["thing"]) fun _ _ _ _ _ us hl => match us, hl with | [_], _ => rfl
  have g3 := PySem.W.mg_of X G a3
  have D4 := Def.mk' (st := sLet) l4 d4 k4
  have b4 := D4.binds (ps := ["thing"]) fun _ _ _ _ _ us hl => match us, hl with | [_], _ => rfl
  have g4 := PySem.W.mg_of X G a4
  have D5 := Def.mk' (st := sNam) l5 d5 k5
  have b5 := D5.binds (ps := ["thing"]) fun _ _ _ _ _ us hl => match us, hl with | [_], _ => rfl
  have g5 := PySem.W.mg_of X G a5
  have D6 := Def.mk' (st := sFeed) l6 d6 k6
  have b6 := D6.binds (ps := ["_law_script"]) fun _ _ _ _ _ us hl => match us, hl with | [_], _ => rfl
  have g6 := PySem.W.mg_of X G a6
  have D7 := Def.mk' (st := sDraw) l7 d7 k7
  have b7 := D7.binds (ps := ["_law_feed_here", "_law_many"]) fun _ _ _ _ _ us hl => match us, hl with | [_, _], _ => rfl
  have g7 := PySem.W.mg_of X G a7
  have D8 := Def.mk' (st := sText) l8 d8 k8
  have b8 := D8.binds (ps := ["_law_feed_here"]) fun _ _ _ _ _ us hl => match us, hl with | [_], _ => rfl
  have g8 := PySem.W.mg_of X G a8
  have D9 := Def.mk' (st := sNL) l9 d9 k9
  have b9 := D9.binds (ps := ["_law_feed_here"]) fun _ _ _ _ _ us hl => match us, hl with | [_], _ => rfl
  have g9 := PySem.W.mg_of X G a9
  have D10 := Def.mk' (st := sThing) l10 d10 k10
  have b10 := D10.binds (ps := ["_law_feed_here"]) fun _ _ _ _ _ us hl => match us, hl with | [_], _ => rfl
  have g10 := PySem.W.mg_of X G a10
  have D11 := Def.mk' (st := sWhole) l11 d11 k11
  have b11 := D11.binds (ps := ["_law_thing_here"]) fun _ _ _ _ _ us hl => match us, hl with | [_], _ => rfl
  have g11 := PySem.W.mg_of X G a11
  have D12 := Def.mk' (st := sAll) l12 d12 k12
  have b12 := D12.binds (ps := ["_law_thing_here", "_law_most", "_law_codes"]) fun _ _ _ _ _ us hl => match us, hl with | [_, _, _], _ => rfl
  have g12 := PySem.W.mg_of X G a12
  have D13 := Def.mk' (st := sDue) l13 d13 k13
  have b13 := D13.binds (ps := ["_law_thing_here"]) fun _ _ _ _ _ us hl => match us, hl with | [_], _ => rfl
  have g13 := PySem.W.mg_of X G a13
  have D14 := Def.mk' (st := sTof) l14 d14 k14
  have b14 := D14.binds (ps := ["many", "thing"]) fun _ _ _ _ _ us hl => match us, hl with | [_, _], _ => rfl
  have g14 := PySem.W.mg_of X G a14
  have D15 := Def.mk' (st := sLaw) l15 d15 k15
  have g15 := PySem.W.mg_of X G a15
  have t : Txt2 mg := { isi := (PySem.W.mg_none_of X G z0), int := (PySem.W.mg_none_of X G z1), bool := (PySem.W.mg_none_of X G z2), str := (PySem.W.mg_none_of X G z3), tup := (PySem.W.mg_none_of X G z4), len := (PySem.W.mg_none_of X G z5), all := (PySem.W.mg_none_of X G z6), range := (PySem.W.mg_none_of X G z7), ord := (PySem.W.mg_none_of X G z8), repr := (PySem.W.mg_none_of X G z9), lst := (PySem.W.mg_none_of X G z10) }
  obtain ⟨cw, hw⟩ := tW c3 PW (Mw.tabIn_of a3 l3 rfl u3 t3)
  obtain ⟨cl, hl⟩ := tL c4 PL (Mw.tabIn_of a4 l4 rfl u4 t4)
  refine ⟨PySem.W.fnOf "law" "law" (defArgs sLaw) (defBody sLaw) (defScope sLaw) .none kV15 dc15 pm15 an15 (.ref c15) ct15, [(c3, PW), (c4, PL)], spLaw K [PW, PL], fun p hp => ?_, fun s v => .of_eq rfl, fun H a ns h1 _ h2 h3 => ⟨a, ns, rfl, h3, h1, fun p hp => ?_, fun _ => rfl⟩, fun base kb nb tb => ?_⟩
  · rcases List.mem_cons.mp hp with e | hp
    · subst e; exact ⟨hw, n3, cw⟩
    · rw [List.mem_singleton.mp hp]; exact ⟨hl, n4, cl⟩
  · rcases List.mem_cons.mp hp with e | hp
    · subst e; exact ⟨#[], h2 (c3, p) (by simp), trivial⟩
    · have e := List.mem_singleton.mp hp
      subst e; exact ⟨#[], h2 (c4, p) (by simp), trivial⟩
  · have GD : FnOk l.prog w K mg base CX0 1 f7 _ ["_law_feed_here", "_law_many"] spDraw := ok_draw D7 t.toTxt
    have GT := ok_text (base := base) (P := l.prog) (w := w) D8 t k7 b7 g7 GD
    have GL := ok_nl (base := base) (P := l.prog) (w := w) D9 t k7 b7 g7 GD k8 b8 g8 GT
    have GTh := ok_thing (base := base) (P := l.prog) (w := w) D10 t k7 b7 g7 GD k8 b8 g8 GT k9 b9 g9 GL
    have GWh : FnOk l.prog w K mg base CX0 1 f11 _ ["_law_thing_here"] (spNum K) := ok_whole D11 t
    have GAl : FnOk l.prog w K mg base CX0 1 f12 _ ["_law_thing_here", "_law_most", "_law_codes"] (spAll K) := ok_all D12 t
    have GDu := ok_due (base := base) (P := l.prog) (w := w) D13 t k11 b11 g11 GWh k12 b12 g12 GAl
    have GF : FnOk l.prog w K mg base CX0 1 f6 _ ["_law_script"] (spFeed K) := ok_feed D6 t.lst
    have GNu : FnOk l.prog w K mg base CX0 1 f1 _ ["thing"] (spNum K) := ok_num D1 t.toTxt
    have GWo := ok_wrd (base := base) (P := l.prog) (w := w) (T := [PW, PL]) D3 t.toTxt D2 b2 g2 (PySem.W.mg_of X G w8) (tb (c3, PW) (by simp)) (by simp)
    have GLe := ok_let (base := base) (P := l.prog) (w := w) (T := [PW, PL]) D4 t.toTxt D2 b2 g2 (PySem.W.mg_of X G w12) (tb (c4, PL) (by simp)) (by simp)
    have GNa := ok_nam (base := base) (P := l.prog) (w := w) (T := [PW, PL]) (Pt := PW) (cW := c3) D5 t.toTxt D14 b14 g14 D1 b1 g1 k3 b3 g3 GWo
    exact ok_law D15 t k6 b6 g6 GF k10 b10 g10 GTh k13 b13 g13 GDu k1 b1 g1 GNu k3 b3 g3 GWo k4 b4 g4 GLe k5 b5 g5 GNa
end K01
open PySem PySem.W PyProof.Rows
set_option maxRecDepth 100000 in
set_option maxHeartbeats 0 in
theorem PySem.Challenge.cw_marginwords_k01_kinds_holds : PySem.Challenge.rw_marginwords_k01_kinds.Holds := by
  w_on; o_law; k_head; (case hw => w_witness2)
  k_fill
  refine Mw.law_end (l := PySem.Challenge.rw_marginwords_k01_kinds) (n := 63) (k := 5) (x := "_law_script") rfl (by decide) rfl ⟨rfl, by decide, by decide⟩ (fun w h Y => PySem.W.kIn_of Y) ?F
  case F =>
    intro w mg fa h KX G hmg htab
    refine' K01.all_mk KX G hmg (htab "is_word" ?y1) (htab "is_letters" ?y2) ?a1 ?l1 ?d1 ?k1 ?a2 ?l2 ?d2 ?k2 ?a3 ?l3 ?d3 ?k3 ?a4 ?l4 ?d4 ?k4 ?a5 ?l5 ?d5 ?k5 ?a6 ?l6 ?d6 ?k6 ?a7 ?l7 ?d7 ?k7 ?a8 ?l8 ?d8 ?k8 ?a9 ?l9 ?d9 ?k9 ?a10 ?l10 ?d10 ?k10 ?a11 ?l11 ?d11 ?k11 ?a12 ?l12 ?d12 ?k12 ?a13 ?l13 ?d13 ?k13 ?a14 ?l14 ?d14 ?k14 ?a15 ?l15 ?d15 ?k15 ?z0 ?z1 ?z2 ?z3 ?z4 ?z5 ?z6 ?z7 ?z8 ?z9 ?z10 ?w8 ?w12 ?u3 ?u4 ?t3 ?t4 ?n3 ?n4
    (case y1 => kernel_rfl); (case y2 => kernel_rfl)
    (case a1 => k_is); (case l1 => k_is); (case d1 => k_is); (case k1 => k_is); (case a2 => k_is); (case l2 => k_is)
    (case d2 => k_is); (case k2 => k_is); (case a3 => k_is); (case l3 => k_is); (case d3 => k_is); (case k3 => k_is)
    (case a4 => k_is); (case l4 => k_is); (case d4 => k_is); (case k4 => k_is); (case a5 => k_is); (case l5 => k_is)
    (case d5 => k_is); (case k5 => k_is); (case a6 => k_is); (case l6 => k_is); (case d6 => k_is); (case k6 => k_is)
    (case a7 => k_is); (case l7 => k_is); (case d7 => k_is); (case k7 => k_is); (case a8 => k_is); (case l8 => k_is)
    (case d8 => k_is); (case k8 => k_is); (case a9 => k_is); (case l9 => k_is); (case d9 => k_is); (case k9 => k_is)
    (case a10 => k_is); (case l10 => k_is); (case d10 => k_is); (case k10 => k_is); (case a11 => k_is); (case l11 => k_is)
    (case d11 => k_is); (case k11 => k_is); (case a12 => k_is); (case l12 => k_is); (case d12 => k_is); (case k12 => k_is)
    (case a13 => k_is); (case l13 => k_is); (case d13 => k_is); (case k13 => k_is); (case a14 => k_is); (case l14 => k_is)
    (case d14 => k_is); (case k14 => k_is); (case a15 => k_is); (case l15 => k_is); (case d15 => k_is); (case k15 => k_is)
    (case z0 => k_is); (case z1 => k_is); (case z2 => k_is); (case z3 => k_is); (case z4 => k_is); (case z5 => k_is)
    (case z6 => k_is); (case z7 => k_is); (case z8 => k_is); (case z9 => k_is); (case z10 => k_is); (case w8 => k_is)
    (case w12 => k_is); (case u3 => k_is); (case u4 => k_is); (case t3 => rfl); (case t4 => rfl); (case n3 => kernel_rfl)
    (case n4 => kernel_rfl)

