import PyProof.Rows.All
import Wide.All
import OpenK.AllK
import Wide.FinOn
import HandS.ForMost
import HandS.ForExc
import HandS.IsInst
import HandS.EndBits
import HandS.Wide
import PyProof.ReprRoads
import HandS.ExcInit
import HandS.ExcSuper
import HandS.ExcIs
import HandS.TryMany
import HandS.MakeKw
import KE.KExcInit
import KE.KExcIs
import HandS.ExcField
import HandS.Style
import HandS.Defaults
import HandS.FStrTup
import PySem.Challenge.RW_narrowplay_k00_errors_by_position_and_by
import HandS.HotCalls
import HandS.WordsExc
import HandS.Walk
set_option Elab.async false
set_option linter.all false
set_option maxRecDepth 100000
set_option maxHeartbeats 2000000
/-! Z0: data values of any depth as they stand in the abstract heap, and repr of them. -/
namespace Zk
open PySem PySem.Spec PyProof.Rows L2

def keyD : Key → PyData
  | .inl i => .int i
  | .inr x => .str x

mutual
/-- v is, in H, the data d -/
inductive Sd (H : Hp) : V → PyData → Prop
  | non : Sd H .non .none
  | bl (b : Bool) : Sd H (.bl b) (.bool b)
  | int (i : Int) : Sd H (.int i) (.int i)
  | str (x : Str) : Sd H (.str x) (.str x)
  | lst {a : Addr} {xs : List V} {ds : List PyData} : H a = some (.lst xs) → SdL H xs ds → Sd H (.ref a) (.list ds)
  | tup {a : Addr} {xs : List V} {ds : List PyData} : H a = some (.tup xs) → SdL H xs ds → Sd H (.ref a) (.tuple ds)
  | dic {a : Addr} {kvs : List (Key × V)} {es : List (PyData × PyData)} : H a = some (.dK kvs) → SdK H kvs es → Sd H (.ref a) (.dict es)
inductive SdL (H : Hp) : List V → List PyData → Prop
  | nil : SdL H [] []
  | cons {v : V} {vs : List V} {d : PyData} {ds : List PyData} : Sd H v d → SdL H vs ds → SdL H (v :: vs) (d :: ds)
inductive SdK (H : Hp) : List (Key × V) → List (PyData × PyData) → Prop
  | nil : SdK H [] []
  | cons {k : Key} {v : V} {kvs : List (Key × V)} {d : PyData} {es : List (PyData × PyData)} : Sd H v d → SdK H kvs es → SdK H ((k, v) :: kvs) ((keyD k, d) :: es)
end

mutual
theorem Sd.same {H H' : Hp} (e : Same H H') : ∀ {v : V} {d : PyData}, Sd H v d → Sd H' v d
  | _, _, .non => .non
  | _, _, .bl b => .bl b
  | _, _, .int i => .int i
  | _, _, .str x => .str x
  | _, _, .lst h t => .lst (e _ _ h) (SdL.same e t)
  | _, _, .tup h t => .tup (e _ _ h) (SdL.same e t)
  | _, _, .dic h t => .dic (e _ _ h) (SdK.same e t)
theorem SdL.same {H H' : Hp} (e : Same H H') : ∀ {vs : List V} {ds : List PyData}, SdL H vs ds → SdL H' vs ds
  | _, _, .nil => .nil
  | _, _, .cons h t => .cons (Sd.same e h) (SdL.same e t)
theorem SdK.same {H H' : Hp} (e : Same H H') : ∀ {ks : List (Key × V)} {es : List (PyData × PyData)}, SdK H ks es → SdK H' ks es
  | _, _, .nil => .nil
  | _, _, .cons h t => .cons (Sd.same e h) (SdK.same e t)
end
theorem SdL.len {H : Hp} : ∀ {vs : List V} {ds : List PyData}, SdL H vs ds → vs.length = ds.length
  | _, _, .nil => rfl
  | _, _, .cons _ t => congrArg Nat.succ t.len
theorem SdL.app {H : Hp} : ∀ {vs ws : List V} {ds es : List PyData}, SdL H vs ds → SdL H ws es → SdL H (vs ++ ws) (ds ++ es)
  | _, _, _, _, .nil, t => t
  | _, _, _, _, .cons h s, t => .cons h (s.app t)
theorem SdL.get {H : Hp} : ∀ {vs : List V} {ds : List PyData} {i : Nat} {v : V}, SdL H vs ds → vs[i]? = some v → ∃ d, ds[i]? = some d ∧ Sd H v d
  | _, _, _, _, .nil, e => by simp at e
  | _, _, 0, _, .cons h _, e => by
    simp at e
    subst e
    exact ⟨_, rfl, h⟩
  | _, _, i + 1, v, .cons _ t, e => by
    obtain ⟨d, h1, h2⟩ := SdL.get (i := i) (v := v) t (by simpa using e)
    exact ⟨d, by simpa using h1, h2⟩

/-! ### reading it off the real heap -/
/-- the table of modules stood there ahead of all -/
def SysB (base : Heap) : Prop := ∃ ob, base.get? sysModules = some ob
section
variable {X : Cx} {pins : List (Addr × Obj)} {σ : List (Option V)} {H : Hp} {s : Shared}
theorem sys_ne (I : Inv X pins σ H s) (S : SysB X.base) {a : Addr} {o : HO} (h : H a = some o) : sysModules ≠ a := by
  obtain ⟨ob, hb⟩ := S
  intro e
  have q := (I.bs sysModules ob hb).2
  rw [e, h] at q
  cases q
theorem sdk_keys {P : Program} {w : World} {h : Heap} : ∀ {kvs : List (Key × V)} {vs : List (Key × Value)} {es : List DictEntry} {ds : List (PyData × PyData)} {H : Hp},
    KV kvs vs → Pairs (mixKind P w) es vs → SdK H kvs ds → ∃ as, ReadsAll h (es.map (·.key)) (ds.map (·.1)) as ∧ sysModules ∉ as
  | _, _, _, _, _, .nil, .nil, .nil => ⟨[], .nil, by simp⟩
  | (k, v) :: kvs, _, _, _, _, .cons r t, .cons h1 h2 h3, .cons hd tl => by
    obtain ⟨as, q, nq⟩ := sdk_keys t h3 tl
    obtain ⟨e, _⟩ := r
    have e : k = _ := e
    rw [← e] at h1
    rcases keyIs_shape (show keyIs k _ = true from h1) with ⟨i, u, rfl, e2⟩ | ⟨x, u, rfl, e2⟩
    · have z : Reads h (DictEntry.key _) (.int i) [] := e2 ▸ Reads.int i u
      exact ⟨_, .cons z q, by simpa using nq⟩
    · have z : Reads h (DictEntry.key _) (.str x) [] := e2 ▸ Reads.str x u
      exact ⟨_, .cons z q, by simpa using nq⟩
mutual
theorem Sd.reads (I : Inv X pins σ H s) (S : SysB X.base) : ∀ {v : V} {d : PyData} {u : Value}, Sd H v d → RelV v u → ∃ as, Reads s.heap u d as ∧ sysModules ∉ as
  | _, _, _, .non, r => by
    cases r
    exact ⟨_, .none, by simp⟩
  | _, _, _, .bl b, r => by
    cases r
    exact ⟨_, .bool b, by simp⟩
  | _, _, _, .int i, r => by
    obtain ⟨t, rfl⟩ := r
    exact ⟨_, .int i t, by simp⟩
  | _, _, _, .str x, r => by
    obtain ⟨t, rfl⟩ := r
    exact ⟨_, .str x t, by simp⟩
  | _, _, _, .lst h t, r => by
    cases r
    obtain ⟨_, its, n, rv, ho⟩ := I.hok _ _ h
    obtain ⟨as, q, nq⟩ := SdL.reads I S t rv
    refine ⟨_, Reads.list ho rfl rfl (by simpa using q), ?_⟩
    intro m
    rcases List.mem_cons.mp m with m | m
    · exact sys_ne I S h m
    · exact nq m
  | _, _, _, .tup h t, r => by
    cases r
    obtain ⟨_, its, rv, o, ho, hc, n, hd⟩ := I.hok _ _ h
    obtain ⟨as, q, nq⟩ := SdL.reads I S t rv
    exact ⟨_, Reads.tuple ho hc hd (by simpa using q), nq⟩
  | _, _, _, .dic h t, r => by
    cases r
    obtain ⟨_, _, vs, kv, o, es, ep, ho, hx, hd, _, hp, _⟩ := I.hok _ _ h
    obtain ⟨as, q1, n1⟩ := sdk_keys (P := X.prog) (w := X.w) (h := s.heap) kv hp t
    obtain ⟨bs, q2, n2⟩ := SdK.reads I S t kv hp
    refine ⟨_, Reads.dict ho hx.1 hd q1 q2, ?_⟩
    intro m
    rcases List.mem_cons.mp (show sysModules ∈ _ :: (as ++ bs) from by simpa using m) with m | m
    · exact sys_ne I S h m
    · rcases List.mem_append.mp m with m | m
      · exact n1 m
      · exact n2 m
theorem SdL.reads (I : Inv X pins σ H s) (S : SysB X.base) : ∀ {vs : List V} {ds : List PyData} {us : List Value}, SdL H vs ds → Vals vs us → ∃ as, ReadsAll s.heap us ds as ∧ sysModules ∉ as
  | _, _, _, .nil, .nil => ⟨_, .nil, by simp⟩
  | _, _, _, .cons h t, .cons r rs => by
    obtain ⟨as, q, nq⟩ := Sd.reads I S h r
    obtain ⟨bs, q2, nq2⟩ := SdL.reads I S t rs
    refine ⟨_, .cons q q2, fun m => ?_⟩
    rcases List.mem_append.mp m with m | m
    · exact nq m
    · exact nq2 m
theorem SdK.reads (I : Inv X pins σ H s) (S : SysB X.base) : ∀ {kvs : List (Key × V)} {vs : List (Key × Value)} {es : List DictEntry} {ds : List (PyData × PyData)},
    SdK H kvs ds → KV kvs vs → Pairs (mixKind X.prog X.w) es vs → ∃ as, ReadsAll s.heap (es.map (·.val)) (ds.map (·.2)) as ∧ sysModules ∉ as
  | _, _, _, _, .nil, .nil, .nil => ⟨_, .nil, by simp⟩
  | _, _, _, _, .cons h t, .cons r rs, .cons h1 h2 h3 => by
    obtain ⟨_, r2⟩ := r
    obtain ⟨as, q, nq⟩ := Sd.reads I S h r2
    obtain ⟨bs, q2, nq2⟩ := SdK.reads I S t rs h3
    refine ⟨_, .cons (v := _) (by have h2' := h2; show Reads s.heap (DictEntry.val _) _ _; rw [h2']; exact q) q2, fun m => ?_⟩
    rcases List.mem_append.mp m with m | m
    · exact nq m
    · exact nq2 m
end

/-- repr(x), x data -/
def rRepr : List V → Hp → VK → Prop := fun xs H Q => ∃ x d, xs = [x] ∧ Sd H x d ∧ d.showable = true ∧ d.depth ≤ 100 ∧ d.shown.length ≤ sizeLine ∧ Q (.str d.shown) H
theorem call_repr (S : SysB X.base) (hg : X.A.guards = some []) (hu : X.A.units + 110 < cLine) : CallR X (.builtin "repr") rRepr := by
  intro pins s σ H xs us Q I r h
  obtain ⟨x, d, rfl, hd, h1, h2, h3, q⟩ := h
  obtain ⟨u, rfl, ru⟩ := vals1 r
  obtain ⟨as, rd, ns⟩ := hd.reads I S ru
  cases hd with
  | non => cases ru; exact PySem.P.repr_of_none ⟨.str _, H, I.tok _, ⟨_, rfl⟩, q⟩
  | bl b => cases ru; exact PySem.P.repr_of_bool ⟨.str _, H, I.tok _, ⟨_, rfl⟩, q⟩
  | int i =>
    obtain ⟨t, rfl⟩ := ru
    exact PySem.P.repr_of_int (by simpa [PyData.showable] using h1) ⟨.str _, H, I.tok _, ⟨_, rfl⟩, q⟩
  | str y =>
    obtain ⟨t, rfl⟩ := ru
    exact PySem.P.repr_of_str (hsz := by simpa only [PyData.shown] using h3) ⟨.str _, H, I.tok _, ⟨_, rfl⟩, q⟩
  | lst ha ht =>
    cases ru
    exact repr_of_reads' rd h1 (fun _ => ns) hg (by omega) (fun _ _ e => e) (fun h' v tk k => ⟨.str _, H, I.kept (t' := tk) k, ⟨_, rfl⟩, q⟩) h3
  | tup ha ht =>
    cases ru
    exact repr_of_reads' rd h1 (fun _ => ns) hg (by omega) (fun _ _ e => e) (fun h' v tk k => ⟨.str _, H, I.kept (t' := tk) k, ⟨_, rfl⟩, q⟩) h3
  | dic ha ht =>
    cases ru
    exact repr_of_reads' rd h1 (fun _ => ns) hg (by omega) (fun _ _ e => e) (fun h' v tk k => ⟨.str _, H, I.kept (t' := tk) k, ⟨_, rfl⟩, q⟩) h3
end
end Zk

set_option maxHeartbeats 2000000
/-! Z1: the law's own def, run from the top alone (where nothing is being shown), and the end of a law's proof. -/
namespace Zk
open PySem PySem.Spec PyProof.Rows L2

/-- the context in which the law's body runs: called from the top -/
abbrev topX (P : Program) (w : World) (K : PySem.W.Frag) (mg : Str → Option Value) (base : Heap) (N : List Str) (qual : Str) (sc : Scope) (f : Addr) (cdv : Value) (s : Shared) (H : Hp) : Cx :=
  cxOf CX0 P w K mg base N qual sc f cdv callerA [] s H E0
/-- what the def at f keeps when it is called from the top -/
def LawAt (P : Program) (w : World) (K : PySem.W.Frag) (mg : Str → Option Value) (base : Heap) (f : Addr) (fd : FuncData) (ps : List Str) (sp : Sp) : Prop :=
  ∀ (s : Shared) (H : Hp) (args : Args) (us : List Value) (vs : List V) (Q : VK), vs.length = ps.length → Env0 P w K mg base callerA [] s H → BindsTo s fd args (ps.zip us) → Vals vs us → sp vs H Q E0 →
    codeAny (model P w) callerA (.call (.ref f) args) (CR CX0 [] P w H s Q E0) s
section
variable {P : Program} {w : World} {K : PySem.W.Frag} {mg : Str → Option Value} {base : Heap}
theorem law_at {x qual : Str} {st : Stmt} {f : Addr} {fd : FuncData} {N ps : List Str} {sp : Sp} (F : Fun K x qual st f fd) (S : FnScope N ps (defScope st))
    (body : ∀ (cdv : Value) (s : Shared) (H : Hp) (vs : List V) (Q : VK), sp vs H Q E0 →
      ∃ t, PSs (topX P w K mg base N qual (defScope st) f cdv s H).nox (defBody st) t ∧ t { nx := fun _ H' => Q .non H', rt := Q } (start N vs) H) : LawAt P w K mg base f fd ps sp := by
  obtain ⟨_, _, kV, doc, pm, an, cdv, ct, _, rfl, lk, hcd⟩ := F.ex
  intro s H args us vs Q hl e0 hb r hsp
  have there := fun b o e => (e0.bs b o e).1
  have KX : K.In s.heap := e0.mod.kin.keeps there
  have par : ∀ y ∈ ps.zip us, (defScope st).names.lookup y.1 = some .local ∨ ((defScope st).names.lookup y.1 = some .cell ∧ ((cellsFrom (s.heap.objs.size + 1) (defScope st).names []).lookup y.1).isSome = true) := by
    rintro ⟨n, v⟩ hy
    exact (S.par n (List.of_mem_zip hy).1).imp id fun q => ⟨q, PySem.W.cellsFrom_some _ _ _ (.inl q)⟩
  refine codeAny_call_function (by decide) (KX _ _ lk) rfl S.co S.gen rfl (PySem.W.codeRec_of KX hcd) (hb _ _ _ _ (wpAny_newFunctionEnv_cells S.kind par ?_))
  rintro env rfl s1 x
  obtain ⟨t, ht, hq⟩ := body cdv s H vs Q hsp
  have lim : s.heap.NoLimit := e0.mod.nolimit.keeps there
  refine ⟨lim.keeps x.toInCall.keep, codeAny_func (wpAny_mono (ht.nox.run [] s1 (start N vs) H _ (inv_start S rfl e0 hl r x) hq) ?_ fun e s' hs => hs)⟩
  intro fl s' hs
  cases fl with
  | brk => exact (let ⟨_, _, _, q⟩ := hs; False.elim q)
  | cont => exact (let ⟨_, _, _, q⟩ := hs; False.elim q)
  | next =>
    obtain ⟨_, H', J, q⟩ := hs
    exact ⟨.non, H', J.os, J.bare, J.base, J.hok, rfl, q⟩
  | ret u =>
    obtain ⟨v, _, H', J, rv, q⟩ := hs
    exact ⟨v, H', J.os, J.bare, J.base, J.hok, rv, q⟩

/-- the script tracked as known to its object, or one of the written part's own objects: either way the law may be called -/
theorem law_top {mb : Str → Option Value} {fa a : Addr} {fd : FuncData} {x : Str} {sp : Sp} {s : Shared} {vs : List Value} {ns : List Int}
    (KX : K.In s.heap) (hm : s.heap.Ns mainGlobals mg) (hb : s.heap.Ns builtinsNs mb) (hbb : ∀ y : Str, y ≠ "__name__" → mb y = bootBuiltins y) (lim : s.heap.NoLimit) (hg : s.gens = #[])
    (ha : s.heap.get? a = some { cls := .type "list", data := .seq vs.toArray }) (hi : IntsAre vs ns) (hl : ns.length ≤ sizeLine)
    (sys : ∃ mm, s.heap.Ns sysModules mm) (F : ∀ base : Heap, K.In base → base.Ns mainGlobals mg → SysB base → LawAt P w K mg base fa fd [x] sp) (bind : ∀ (s : Shared) (u : Value), BindsTo s fd ⟨[u], []⟩ [(x, u)])
    (hsp : ∀ H : Hp, Only H → SqL K H a (ns.map V.int) → sp [.ref a] H (fun v _ => v = .bl true) E0) :
    codeAny (model P w) callerA (.call (.ref fa) ⟨[.ref a], []⟩) (fun r s' => r = .ok (.ret (.bool true)) ∧ OldK s.heap s'.heap ∧ s'.os = s.os ∧ AllBare s'.gens) s := by
  -- for an abstract heap H that tracks the script at most, and the script only if it is none of the written part's
  have go : ∀ H : Hp, Only H → SqL K H a (ns.map V.int) → HOk P w H s.heap → (∀ b u, H b = some u → b = a ∧ K.lookup a = none) →
      codeAny (model P w) callerA (.call (.ref fa) ⟨[.ref a], []⟩) (fun r s' => r = .ok (.ret (.bool true)) ∧ OldK s.heap s'.heap ∧ s'.os = s.os ∧ AllBare s'.gens) s := by
    intro H only seq hok lone
    have stay : ∀ {b : Addr} {m : Str → Option Value}, s.heap.Ns b m → (hidT s.heap H).Ns b m := by
      rintro b m ⟨o, es, ep, ho, hd, r⟩
      refine ⟨o, es, ep, hidT_get ho ?_, hd, r⟩
      cases q : H b with
      | none => rfl
      | some u =>
        rw [(lone b u q).1, ha] at ho
        cases ho
        cases (show Data.seq vs.toArray _ = Data.dict es ep from hd)
    have kin : K.In (hidT s.heap H) := fun b o hk => by
      refine hidT_get (KX b o hk) ?_
      cases q : H b with
      | none => rfl
      | some u =>
        obtain ⟨e, n⟩ := lone b u q
        rw [e, n] at hk
        cases hk
    have sysB : SysB (hidT s.heap H) := by
      obtain ⟨mm, hmm⟩ := sys
      obtain ⟨ob, _, _, ho, _⟩ := stay hmm
      exact ⟨ob, ho⟩
    have mod : Mod K mg (hidT s.heap H) := ⟨kin, stay hm, ⟨mb, stay hb, hbb⟩, by obtain ⟨mc, h1, h2⟩ := lim; exact ⟨mc, stay h1, h2⟩⟩
    have none0 : ∀ b : Addr, b ∉ frs [] := fun b => List.not_mem_nil
    have e0 : Env0 P w K mg (hidT s.heap H) callerA [] s H := ⟨rfl, mod, fun _ _ => of_hidT, by rw [hidT_size] <;> exact Nat.le_refl _, trivial, fun b hb => absurd hb (none0 b), hok, .of_eq hg⟩
    refine codeAny_mono (F _ kin (stay hm) sysB s H ⟨[.ref a], []⟩ [.ref a] [.ref a] _ rfl e0 (bind _ _) (.cons rfl .nil) (hsp H only seq)) ?_
    intro r s' h
    match r, h with
    | .error e, h => exact False.elim h
    | .ok .next, h => exact False.elim h
    | .ok .brk, h => exact False.elim h
    | .ok .cont, h => exact False.elim h
    | .ok (.ret u), ⟨v, H', os, bare, un, hok', rv, e⟩ =>
      have e : v = .bl true := e
      subst e
      obtain rfl : u = Value.bool true := rv
      refine ⟨rfl, OldK.of_keep fun b o hb => ?_, os, bare⟩
      rcases only b with z | ⟨ob, xs, z⟩
      · exact un.keep b o hb z (none0 b) List.not_mem_nil
      · have h1 := (hok b _ z).1
        rw [hb] at h1
        cases h1
        exact (hok' b _ (un.frzs b _ _ z)).1
  have len := hi.length
  cases hk : K.lookup a with
  | some o =>
    have z := KX a o hk
    rw [ha] at z
    cases z
    refine go (fun _ => none) (fun _ => .inl rfl) (.inr ⟨_, vs.toArray, _, hk, rfl, rfl, rfl, ?_, by simpa using vals_ints hi⟩) (fun _ _ z => nomatch z) fun _ _ z => nomatch z
    simpa [len] using hl
  | none =>
    let T : HO := .frz { cls := .type "list", data := .seq vs.toArray } (.lst (ns.map V.int))
    have at_ : ∀ b u, (fun b => if b = a then some T else none : Hp) b = some u → b = a ∧ u = T := by
      intro b u z
      by_cases e : b = a
      · exact ⟨e, by simpa [e] using z.symm⟩
      · simp [e] at z
    refine go (fun b => if b = a then some T else none) (fun b => ?_) (.inl (.inr ⟨{ cls := .type "list", data := .seq vs.toArray }, if_pos rfl⟩)) (fun b u z => ?_) fun b u z => ⟨(at_ b u z).1, hk⟩
    · by_cases e : b = a
      · exact .inr ⟨_, _, if_pos e⟩
      · exact .inl (if_neg e)
    · obtain ⟨rfl, rfl⟩ := at_ b u z
      exact ⟨ha, by simpa using hl, vs, _, vals_ints hi, ha⟩
end

/-- the end: the law's promise, from the script's ints (at most n of them, each of at most 2 ^ 20 bits) -/
theorem walk_top {l : PySem.W.OpenLaw} {n : Nat} {q : Program} {loose : List Str} {XP : (Str → Option Value) → Heap → Prop} {YP : World → Heap → Prop} {d : DefRec} {K : Params → PySem.W.Frag} {sp : PySem.W.Frag → Sp} {x : Str}
    (hn : l.most = some n) (hn2 : n ≤ sizeLine) (hdf : d.params.defaults = []) (himp : importsNone q = true) (hY : ∀ (w : World) (h : Heap), YP w h → (K w.params).In h)
    (F : ∀ (w : World) (mg : Str → Option Value) (fa : Addr) (h : Heap), (K w.params).In h → h.Ns mainGlobals mg → mg d.name = some (.ref fa) →
      ∃ fd : FuncData, (∀ (s : Shared) (u : Value), BindsTo s fd ⟨[u], []⟩ [(x, u)]) ∧ ∀ base : Heap, (K w.params).In base → base.Ns mainGlobals mg → SysB base → LawAt l.prog w (K w.params) mg base fa fd [x] (sp (K w.params)))
    (hsp : ∀ (K : PySem.W.Frag) (H : Hp) (a : Addr) (ns : List Int), ns.length ≤ n → (∀ z ∈ ns, Builtin.Int.intBits z ≤ 1048576) → SqL K H a (ns.map V.int) → sp K [.ref a] H (fun v _ => v = .bl true) E0) :
    PySem.W.WalkO q loose XP YP l.row.toRowW d [] (fun f vs => PySem.call f vs) := by
  refine Att.attach_callB hn hdf ?_
  intro w _ s mg mb fa _ _ _ _ a vs ns G Y _ _ _ hmg hobj hints hlen hbits hg
  obtain ⟨fd, hb, hF⟩ := F w mg fa _ (hY w _ Y) G.T.g hmg
  exact law_top (hY w _ Y) G.T.g G.T.b G.T.builtins G.T.nolimit hg hobj hints (Nat.le_trans hlen hn2) (let ⟨mm, e, _⟩ := (G.T.seer himp).mods; ⟨mm, e⟩) hF hb fun H _ hS => hsp _ H a ns hlen hbits hS
end Zk

set_option maxHeartbeats 4000000
/-! E0: own error classes over an own class over Exception: made as values (tracked in the abstract heap), their fields read, asked by isinstance. -/
namespace Zk
open PySem PySem.Spec PyProof.Rows L2
open PySem.W (findIn subIn typeIn keepIn excTail)

/-- the class at C: own classes bm' and then Exception's line behind it; its objects have a dict -/
structure OwnE (K : PySem.W.Frag) (C : Addr) : Prop where
  obj : ∃ nm q N bs bm sn sub ab col dd k0 k1 k2 k3 k5, K.lookup C = some (excClassObj nm q C N bs bm true sn sub ab col dd k0 k1 k2 k3 k5 "Exception.__new__") ∧ excTail PySem.ESX.exTail bm = true
  sa : findIn K (.ref C) "__setattr__" = some (some (.builtin "object.__setattr__"))
  ga : findIn K (.ref C) "__getattribute__" = some (some (.builtin "BaseException.__getattribute__"))
  gg : findIn K (.ref C) "__getattr__" = some none
  ca : findIn K (.ref C) "__class__" = some (some (.builtin "object.__class__"))
  exC : subIn K (.ref C) (.type "BaseException") = some true
  tyC : typeIn K (.ref C) = some (.type "type")
  kC : keepIn K (.ref C) = true
/-- what isinstance asks besides, of no one class -/
structure ClsG (K : PySem.W.Frag) : Prop where
  sp : PySem.W.specialIn K (.builtin "object.__class__") "__get__" = some (some (.builtin "getset_descriptor.__get__"))
  tk : PySem.W.takesIn K (.builtin "object.__class__") = some true
section
variable {K : PySem.W.Frag} {C : Addr}
theorem OwnE.cd (T : OwnE K C) : ∃ cd, PySem.W.clsIn K C = some cd ∧ cd.hasDict = true ∧ (∃ bm, cd.mro = .ref C :: bm ∧ excTail PySem.ESX.exTail bm = true) := by
  obtain ⟨nm, q, N, bs, bm, sn, sub, ab, col, dd, k0, k1, k2, k3, k5, h, hb⟩ := T.obj
  refine ⟨{ name := nm, bases := bs, mro := .ref C :: bm, ns := N, qualname := q, hasDict := true, slotNames := sn, subclasses := sub, abstract := ab, collection := col, hasDel := false }, ?_, rfl, bm, rfl, hb⟩
  unfold PySem.W.clsIn
  rw [h]
theorem OwnE.isCls (T : OwnE K C) : (PySem.W.clsIn K C).isSome = true := by
  obtain ⟨cd, h, _⟩ := T.cd
  rw [h]
  rfl
theorem OwnE.mro (T : OwnE K C) {n : String} (hn : (PySem.ESX.exTail).contains (.type n) = true) : PySem.W.mroIn K C (.type n) = some true := by
  obtain ⟨cd, h, _, bm, hm, hb⟩ := T.cd
  unfold PySem.W.mroIn
  rw [h, Option.bind_some, hm, if_neg (show ¬ (List.isEmpty (Value.ref C :: bm) = true) from Bool.false_ne_true), List.contains_cons, PySem.W.excTail_contains n bm hb, hn, Bool.or_true]
theorem OwnE.pass (T : OwnE K C) {cd : ClassData} (h : PySem.W.clsIn K C = some cd) (self : Value) : refuseLoop self "__setattr__" cd.mro = pure () := by
  obtain ⟨cd', h', _, bm, hm, hb⟩ := T.cd
  rw [h] at h'
  cases h'
  exact PySem.W.excTail_pass self (F.store_Exception.passes self) _ (by rw [hm]; exact hb)
end

/-! ### the first store into such an object: its dict is laid -/
section
open Builtin Builtin.ObjectAttr
variable {prog : Program} {w : World} {A : Around} {R : Result → Shared → Prop} {h0 : Heap} {g : Array GenState} {d : Drawn} {t : Nat} {os : OsState} {K : PySem.W.Frag} {x C : Addr} {name : Str}
theorem first_store (T : OwnE K C) {tk : Tok} {v : Value} {flds : Array Value} (X : K.In h0) (hx : h0.get? x = some { cls := .ref C, data := .fields flds }) (ha : findIn K (.ref C) name = some none)
    (hq : ∀ h1 tk' dx, (∀ b o, b ≠ x → h0.get? b = some o → h1.get? b = some o) → h0.objs.size ≤ dx → dx ≠ x → h1.get? x = some { cls := .ref C, dict := some dx, data := .fields flds } →
      h1.Ns1 dx (fun y => if y = name then some v else none) → R (.ok (.ret .none)) ⟨h1, g, d, tk', os⟩) :
    codeAny (model prog w) A (.call (.builtin "object.__setattr__") ⟨[.ref x, .str name tk, v], []⟩) R ⟨h0, g, d, t, os⟩ := by
  obtain ⟨cd, hcd, hdict, _⟩ := T.cd
  have at_x : PySem.W.InstAt h0 x { cls := .ref C, data := .fields flds } C none := ⟨hx, rfl, rfl, trivial⟩
  have apart : x ≠ h0.objs.size := Nat.ne_of_lt (Heap.lt_size hx)
  have S := F.store_object
  have isObj : PySem.W.Looks (model prog w) h0 (isInstance (.ref x) (.type "object")) true := at_x.type.andThen (PySem.W.looks_mroIn X (T.mro (by decide +kernel)))
  have line : PySem.W.Looks (model prog w) h0 (mroOf (.ref C)) cd.mro := (PySem.W.looks_clsIn X hcd).andThen .now
  have data : PySem.W.Looks (model prog w) h0 (classData C) cd := PySem.W.looks_clsIn X hcd
  have free : PySem.W.Looks (model prog w) h0 (storeTaker? none) none := .now
  refine codeAny_call_builtin S.slot.plain S.entry ?_
  refine @PySem.W.check_slot (model prog w) _ _ ⟨h0, g, d, t, os⟩ "object.__setattr__" "object" "__setattr__" (.ref x) [.str name tk, v] [] _ S.kind S.split isObj (S.args (.ref x) (.str name tk) v) ?_
  rw [PySem.W.osa_eq, refuse_eq]
  refine wpAny_bind (wpAny_bind (at_x.type.at (wpAny_bind (line.at ?_))))
  rw [T.pass hcd (.ref x)]
  refine wpAny_pure (wpAny_bind (at_x.type.at (wpAny_bind ?_)))
  refine (PySem.W.looks_findIn X ha).at (wpAny_bind (free.at ?_))
  show wpAny _ _ (storeInOwnDict (.ref x) (.ref C) (.str name tk) name v false) _ _ _
  obtain ⟨_, _, _, _, _, hd, _, _, _, _, _⟩ := cd
  cases (show hd = true from hdict)
  unfold storeInOwnDict ownDictForStores
  repeat (first | with_reducible refine HandSPX.store_in_new ?_ ?_ | with_reducible refine wpAny_loadPart_at hx ?_ | with_reducible refine data.at ?_ | wp_step)
  · exact ⟨_, #[], _, (Heap.get?_update_ne _ _ _ _ apart.symm).trans (Heap.get?_push_at rfl rfl), rfl, fun _ he => absurd he (by simp), fun _ => rfl⟩
  · intro h1 tk' hn hs
    have old : ∀ {b o}, h0.get? b = some o → (h0.push { cls := .type "dict", data := .dict #[] }).get? b = some o := fun e => Heap.get?_push_of_some _ e
    exact hq h1 tk' h0.objs.size (fun b o hb ho => (hs.2 b (Nat.ne_of_lt (Heap.lt_size ho))).trans ((Heap.get?_update_ne _ _ _ _ hb).trans (old ho))) (Nat.le_refl _) apart.symm
      ((hs.2 x apart).trans (Heap.get?_update_self _ (old hx) rfl)) hn
end

section
variable {X : Cx} {pins : List (Addr × Obj)} {σ : List (Option V)} {H : Hp} {s : Shared} {a C : Addr} {f : Str} {y : V} {u : Value}
/-- self.f = y, the first field of a new error -/
theorem est_new (T : OwnE X.K C) (I : Inv X pins σ H s) (e : H a = some (exo a C none)) (hno : findIn X.K (.ref C) f = some none) (ry : RelV y u) {Q : Unit → Shared → Prop} {E : Value → Shared → Prop} {A : Around}
    (h : ∀ dx s', H dx = none → dx ≠ a → Inv X pins σ (upd (upd H dx (exd dx [(f, y)])) a (exo a C (some dx))) s' → Q () s') : wpAny (model X.prog X.w) A (setAttr (.ref a) f u) Q E s := by
  obtain ⟨t1, ho⟩ := exo_at I.hok e
  obtain ⟨hp, g, d, t, os⟩ := s
  refine PySem.W.set_plain I.kIn (od := none) ⟨ho, rfl, rfl, trivial⟩ T.sa (first_store T I.kIn ho hno ?_)
  intro h1 tk' dx keep big apart hx hn
  have fresh : H dx = none := I.hok.fresh big
  have low : ∀ {b : Addr} {o : Obj}, hp.get? b = some o → b ≠ dx := fun q => Nat.ne_of_lt (Nat.lt_of_lt_of_le (Heap.lt_size q) big)
  have nota : ∀ {b : Addr}, H b = none → b ≠ a := fun n z => by
    rw [z, e] at n
    cases n
  have two : ∀ {b : Addr} {o : HO}, o ≠ exo a C none → H b = some o → upd (upd H dx (exd dx [(f, y)])) a (exo a C (some dx)) b = some o := @fun b o n q => by
    have nb : b ≠ a := fun z => by
      rw [z, e] at q
      exact n (Option.some.inj q).symm
    rw [upd_ne nb, upd_ne (ne_of_none q fresh)]
    exact q
  have U : Un X.fs [] H (upd (upd H dx (exd dx [(f, y)])) a (exo a C (some dx))) hp h1 := by
    constructor
    · exact fun b o q n _ _ => keep b o (nota n) q
    · exact fun b o q n _ _ => ⟨o.slots, keep b o (nota n) q⟩
    · exact fun b o q n _ => by rw [upd_ne (nota n), upd_ne (low q)] <;> exact n
    · intro b o q _
      by_cases hb : b = a
      · exact ⟨_, hb ▸ hx⟩
      · exact ⟨o, keep b o hb q⟩
    · exact fun b xs q => two exo_tup.symm q
    · exact fun b o v q => two exo_frz.symm q
    · exact fun b ps q => ⟨#[], by rw [two exo_tbl.symm q]; simp⟩
  refine h dx _ fresh apart (I.un (t' := tk') U fun b o q => ?_)
  by_cases hb : b = a
  · subst hb
    rw [upd_same] at q
    cases q
    exact exo_ok hx
  rw [upd_ne hb] at q
  by_cases hd : b = dx
  · subst hd
    rw [upd_same] at q
    cases q
    exact exd_ok hn (relO_put (fs := []) ry fun _ => True.intro)
  rw [upd_ne hd] at q
  refine (I.hok b o q).stay (fun c v hc z => keep c v ?_ z) (fun c hc => two exo_own.symm hc) fun c xs hc => two exo_tup.symm hc
  rcases hc with hc | hc
  · exact hc ▸ hb
  · exact fun z => by
      rw [z, e] at hc
      exact exo_own (Option.some.inj hc)
/-- Exception.__init__ of a new error -/
theorem einit (T : OwnE X.K C) (I : Inv X pins σ H s) (e : H a = some (exo a C none)) {us : List Value} (hl : us.length ≤ sizeLine) {Q : Value → Shared → Prop} (h : ∀ s', Inv X pins σ H s' → Q .none s') :
    wpAny (model X.prog X.w) X.A (call (.builtin "Exception.__init__") (.ref a :: us)) Q X.xe s := by
  obtain ⟨_, _, _, _, bm, _, _, _, _, _, _, _, _, _, _, hC, hbm⟩ := T.obj
  obtain ⟨t1, ho⟩ := exo_at I.hok e
  obtain ⟨hp, g, d, t, os⟩ := s
  refine wpAny_call (HandSPX.init_base F.excBase_Exception (fun n => PySem.W.excTail_contains n bm hbm) (I.kIn _ _ hC) ho hl fun h1 t2 keep hx => ?_)
  have J := I.write (t' := t) (x := a) (e := a) (o := exo a C none) (by rw [e]; exact True.intro) (.inl rfl) keep ⟨_, hx⟩ (exo_ok hx)
  have same : upd H a (exo a C none) = H := funext fun b => by
    by_cases hb : b = a
    · rw [hb, upd_same, e]
    · exact upd_ne hb
  exact h _ (same ▸ J)
end

/-! ### the rules -/
/-- Base.__init__(self, ..), Base an own class at B over Exception, on a new error -/
def tBase (K : PySem.W.Frag) (ta : TA) : TE := fun σ H Q => ta σ H fun vs H1 => ∃ (a C : Addr) (ws : List V), vs = .ref a :: ws ∧ ws.length ≤ 1000 ∧ OwnE K C ∧ H1 a = some (exo a C none) ∧ Q .non H1
/-- self.f = e on a new error -/
def tFirst (K : PySem.W.Frag) (f : Str) (to te : TE) : TS := fun D σ H => te σ H fun y H1 => to σ H1 fun x H2 => ∃ a C : Addr, x = .ref a ∧ OwnE K C ∧ findIn K (.ref C) f = some none ∧ H2 a = some (exo a C none) ∧
  ∀ dx, H2 dx = none → dx ≠ a → D.nx σ (upd (upd H2 dx (exd dx [(f, y)])) a (exo a C (some dx)))
/-- C(e, ..) as a value, C's own __init__ keeping sp -/
def tMkE (C : Addr) (sp : Sp) (gV : List V → List V → List V) (ta tk : TA) : TE := fun σ H Q => ta σ H fun vs H1 => tk σ H1 fun zs H2 => vs.length + zs.length ≤ 1000 ∧
  ∀ a, H2 a = none → sp (.ref a :: gV vs zs) (upd H2 a (exo a C none)) (fun v H3 => v = .non ∧ Q (.ref a) H3) E0
section
variable {X : Cx} {o e : Expr} {es : List Expr} {to te : TE} {ta : TA} {f : Str} {p p' p1 p2 pos : Pos} {B C : Addr} {x : Str}
theorem pe_base {pl : Sem Bool} (hg : Gl X x) (hm : X.mg x = some (.ref B)) (hs : PySem.W.specialIn X.K (.ref B) "__getattribute__" = some (some (.builtin "type.__getattribute__")))
    (hr : PySem.W.readsIn X.K B (.type "type") = true) (hv : PySem.W.findCls X.K (.ref B) (.type "type") "__init__" = some (.val (.builtin "Exception.__init__"))) (ha : PA X (e :: es) ta)
    (hc : eval (.Call (.Attribute (.Name x p1) "__init__" p2) (e :: es) [] pos) X.env = (do
      let ov ← eval (.Name x p1) X.env
      standAt p2.atName
      let (f, first) ← holding [ov] (getMethod ov "__init__" pl)
      callWith pos f first (backTo pos (starEach (e :: es) X.env)) (backToKw pos (keywordEach [] X.env))) := by rfl)
    (hd : (x == ("__debug__" : Str)) = false := by decide) (he : starEach (e :: es) X.env = (false, eval e X.env) :: starEach es X.env := by rfl) (hpl : (backTo pos (starEach es X.env)).any (·.1) = false := by rfl) :
    PE X (.Call (.Attribute (.Name x p1) "__init__" p2) (e :: es) [] pos) (tBase X.K ta) := by
  refine ⟨fun pins s σ H Q I h => PySem.W.methodCall_KW (ld_glob I hg hm ?_ hd) hc⟩
  refine PySem.W.method_cls I.kIn hs (PySem.W.cls_value I.kIn hr hv (by decide +kernel) ?_)
  show wpAny _ _ (callWith pos (Value.builtin "Exception.__init__") [] (backTo pos (starEach (e :: es) X.env)) []) _ _ _
  refine PyProof.Rows.callWith_method1 (thn (ha.run pos pins _ σ H _ (I.tok _) h) ?_) he hpl
  rintro us s1 ⟨vs, H1, I1, r1, a, C, ws, rfl, hl, T, ea, q⟩
  cases r1 with
  | @cons _ u0 _ ur ra rw' =>
    obtain rfl : u0 = Value.ref a := ra
    refine einit T I1 ea ?_ fun s' J => ⟨.non, H1, J, rfl, q⟩
    have := Paired.length rw'
    rw [sizeLine_eq]
    omega
theorem ps_first (ho : PE X o to) (he : PE X e te) (hs : swapsWith e (some (.Attribute o f p')) pos.line X.env = pure false := by rfl) : PS X (.Assign [.Attribute o f p'] e pos) (tFirst X.K f to te) := by
  refine ⟨fun pins s σ H D I h => plainObj_wpAny_Assign_Attribute (thn (he.run pins s σ H _ I h) ?_) hs⟩
  rintro v s1 ⟨y, H1, I1, r1, q1⟩
  refine thn (ho.run pins s1 σ H1 _ I1 q1) ?_
  rintro u s2 ⟨x, H2, I2, r2, a, C, rfl, T, hno, ea, q⟩
  obtain rfl : u = Value.ref a := r2
  exact est_new T I2 ea hno r1 fun dx s' n ne J => ⟨σ, _, J, q dx n ne⟩
end
end Zk

set_option maxHeartbeats 4000000
/-! E1: making such an error, its arguments by position or by name. -/
namespace Zk
open PySem L2
section
variable {M : Model} {A : Around} {E : Value → Shared → Prop} {h : Heap} {g : Array GenState} {d : Drawn} {t : Nat} {os : OsState}
variable {nm q : Str} {C N : Addr} {bs bm bmB : List Value} {hdct : Bool} {sn : List Str} {sub : List Value} {ab : Bool} {col : Option Bool} {dd : Option Addr} {k0 k1 k2 k3 k5 : Option Value} {B newId initId : String}
/-- __new__ may be called with any arguments, named ones too -/
theorem new_asked (F : ExcBaseFacts B newId initId bmB) (hT : ∀ X : String, bm.contains (.type X) = bmB.contains (.type X)) {us : List Value} {kw : List (Str × Value)} {Q : Unit → Shared → Prop}
    (hC : h.get? C = some (excClassObj nm q C N bs bm hdct sn sub ab col dd k0 k1 k2 k3 k5 newId)) (hq : Q () ⟨h, g, d, t, os⟩) :
    wpAny M A (checkBuiltinCall newId ⟨.ref C :: us, kw⟩) Q E ⟨h, g, d, t, os⟩ := by
  have of_B : (Value.ref C :: bm).contains (.type B) = true := by rw [List.contains_cons, hT, F.hasB, Bool.or_true]
  have star := F.noStar
  simp only [checkBuiltinCall, F.newKind, F.newSplit, F.newRow]
  repeat (first
    | refine wpAny_loadPart_at hC ?_
    | (refine wpAny_isSubtype_exc hC ?_; rw [of_B])
    | refine wpAny_staticBase_exc hC ?_
    | refine wpAny_madeBy_exc hC ?_
    | simp only [bne_self_eq_false, Bool.false_eq_true, if_false]
    | wp_step)
  exact hq
variable {prog : Program} {w : World} {R : Result → Shared → Prop}
/-- what __new__ lays: the arguments by position, then the error -/
theorem new_laid (F : ExcBaseFacts B newId initId bmB) (hT : ∀ X : String, bm.contains (.type X) = bmB.contains (.type X)) {us : List Value} {kw : List (Str × Value)}
    (hC : h.get? C = some (excClassObj nm q C N bs bm hdct sn sub ab col dd k0 k1 k2 k3 k5 newId)) (hus : us.length ≤ sizeLine)
    (hq : R (.ok (.ret (.ref (h.objs.size + 1)))) ⟨(h.push (W.kdv_tup us)).push (HandSPX.excO C h.objs.size), g, d, t, os⟩) :
    codeAny (model prog w) A (.builtin newId ⟨.ref C :: us, kw⟩) R ⟨h, g, d, t, os⟩ := by
  have ends := F.ends
  have of_B : (Value.ref C :: bm).contains (.type B) = true := by rw [List.contains_cons, hT, F.hasB, Bool.or_true]
  have no_A : (Value.ref C :: bm).contains (.type "AttributeError") = false := by
    rw [List.contains_cons, hT, F.noAttr]
    rfl
  have no_N : (Value.ref C :: bm).contains (.type "NameError") = false := by
    rw [List.contains_cons, hT, F.noName]
    rfl
  refine codeAny_builtinAt F.entry ?_
  unfold Builtin.«BaseException.__new__»
  refine wpAt_bind ?_
  show wpAt _ _ _ (stack >>= _) _ _ _
  refine wpAt_bind (wpAt_stack fun _ _ => wpAt_of_wpAny ?_)
  wp_walk
  refine wpAt_of_wpAny ?_
  rw [F.owner]
  repeat (first
    | with_reducible refine wpAny_madeHere_exc F.canon hC ?_
    | with_reducible refine wpAny_loadPart_at hC ?_
    | (with_reducible refine wpAny_isSubtype_exc hC ?_; first | rw [of_B] | rw [no_A] | rw [no_N])
    | wp_step)
  show R _ _
  rw [Heap.size_push]
  exact hq
theorem type_asked {us : List Value} {kw : List (Str × Value)} {Q : Unit → Shared → Prop} (hC : h.get? C = some (excClassObj nm q C N bs bm hdct sn sub ab col dd k0 k1 k2 k3 k5 newId)) (hq : Q () ⟨h, g, d, t, os⟩) :
    wpAny M A (checkBuiltinCall "type.__call__" ⟨.ref C :: us, kw⟩) Q E ⟨h, g, d, t, os⟩ := by
  have sub := tc_sub
  have ty : (⟨h, g, d, t, os⟩ : Shared).TypeIs (.ref C) "type" := ⟨_, hC, rfl⟩
  simp only [checkBuiltinCall, tc_kind, tc_split]
  repeat (any_goals (first
    | assumption
    | with_reducible refine wpAny_loadPart_at hC ?_
    | with_reducible refine wpAny_onRaise ?_
    | with_reducible refine wpAny_map ?_
    | wp_step))
/-- the class called: __new__, then the def at fI with the same arguments behind the new error -/
theorem called (F : ExcBaseFacts B newId initId bmB) (hT : ∀ X : String, bm.contains (.type X) = bmB.contains (.type X)) {us : List Value} {kw : List (Str × Value)} {fI : Addr}
    (hC : h.get? C = some (excClassObj nm q C N bs bm hdct sn sub ab col dd k0 k1 k2 k3 k5 newId)) (hus : us.length ≤ sizeLine)
    (hi : W.Looks (model prog w) h (typeLookup (.ref C) "__init__") (some (.ref fI))) (hb : ∀ self, W.Looks (model prog w) h (bindSpecial (.ref fI) self) (.ref fI, [self]))
    (hq : codeAny (model prog w) (A.under (.builtin "type.__call__" ⟨.ref C :: us, kw⟩)) (.call (.ref fI) ⟨.ref (h.objs.size + 1) :: us, kw⟩) (W.InitBack (h.objs.size + 1) R)
      ⟨(h.push (W.kdv_tup us)).push (HandSPX.excO C h.objs.size), g, d, t, os⟩) :
    codeAny (model prog w) A (.call (.ref C) ⟨us, kw⟩) R ⟨h, g, d, t, os⟩ := by
  have f1 := tc_lookup
  have f2 := tc_bind (.ref C)
  have ty : (⟨h, g, d, t, os⟩ : Shared).TypeIs (.ref C) "type" := ⟨_, hC, rfl⟩
  refine codeAny_of_tree ?_
  show wpAny _ _ (callAny (.ref C) _) _ _ _
  repeat (any_goals (first
    | assumption
    | with_reducible refine wpAny_loadPart_at hC ?_
    | wp_step))
  refine ⟨rfl, ?_⟩
  refine codeAny_call_builtin_at (Code.quiet_builtin _ (by decide +kernel)) entry_typeCall (type_asked hC ?_)
  repeat (first
    | with_reducible refine wpAny_loadPart_at hC ?_
    | with_reducible refine wpAny_madeBy_exc hC ?_
    | wp_step)
  refine codeAny_call_builtin_code (Code.quiet_builtin _ F.quiet) (new_asked F hT hC (new_laid F hT hC hus ?_))
  show wpAny _ _ _ _ _ ⟨(h.push (W.kdv_tup us)).push (HandSPX.excO C h.objs.size), g, d, t, os⟩
  have old : ∀ b o, h.get? b = some o → ((h.push (W.kdv_tup us)).push (HandSPX.excO C h.objs.size)).get? b = some o := fun b o e => Heap.get?_push_of_some _ (Heap.get?_push_of_some _ e)
  have new : ((h.push (W.kdv_tup us)).push (HandSPX.excO C h.objs.size)).get? (h.objs.size + 1) = some (HandSPX.excO C h.objs.size) := by heap_get
  have self : (Value.ref C :: bm).contains (.ref C) = true := by simp
  have hC1 := old _ _ hC
  have hi1 := hi.keeps old
  have hb1 := (hb (.ref (h.objs.size + 1))).keeps old
  unfold isInstance
  repeat (first
    | with_reducible refine wpAny_loadPart_at new ?_
    | (with_reducible refine wpAny_isSubtype_exc hC1 ?_; rw [self])
    | wp_step)
  show wpAny _ _ (typeLookup (.ref C) _) _ _ _
  refine hi1.at (wpAny_holding (wpAny_bind (hb1.at ?_)))
  refine wpAny_bind (wpAny_call (codeAny_mono hq fun r s' z => ?_))
  match r, z with
  | .error e, z => exact z
  | .ok .next, z => exact z.elim
  | .ok .brk, z => exact z.elim
  | .ok .cont, z => exact z.elim
  | .ok (.ret v), ⟨e, z⟩ =>
    subst e
    first
      | exact wpAny_pure (wpAny_pure z)
      | (wp_walk; exact z)
end
end Zk

set_option maxHeartbeats 4000000
/-! E2: the rules for own errors: made as values, their fields read, isinstance asked, raised. -/
namespace Zk
open PySem PySem.Spec PyProof.Rows L2
open PySem.W (findIn subIn typeIn keepIn excTail)

/-- an error of the class at C that stands at a, with its one field f that holds v -/
def ErrAt (H : Hp) (C : Addr) (f : Str) (v : V) (a : Addr) : Prop := ∃ d, H a = some (exo a C (some d)) ∧ H d = some (exd d [(f, v)])
theorem ErrAt.same {H H' : Hp} (e : Same H H') {C : Addr} {f : Str} {v : V} {a : Addr} (h : ErrAt H C f v a) : ErrAt H' C f v a := by
  obtain ⟨d, h1, h2⟩ := h
  exact ⟨d, e _ _ h1, e _ _ h2⟩

section
variable {X : Cx} {o e : Expr} {es : List Expr} {to te : TE} {ta : TA} {f : Str} {p p' p1 p2 pos : Pos} {B C fI : Addr} {x : Str} {pins : List (Addr × Obj)} {σ : List (Option V)} {H : Hp} {s : Shared}
/-- how the arguments of a call by position, or by name, come to __init__'s parameters -/
def KwOk (K : PySem.W.Frag) (fd : FuncData) (ps ks : List Str) (n m : Nat) : Prop :=
  ∀ (s : Shared) (a : Addr) (us ws : List Value), K.In s.heap → us.length = n → ws.length = m → BindsTo s fd ⟨.ref a :: us, ks.zip ws⟩ (ps.zip (.ref a :: (us ++ ws)))
/-- the new object, and then its own __init__ -/
theorem run_mke {k n m : Nat} {fd : FuncData} {ps ks : List Str} {sp : Sp} {R : Result → Shared → Prop} {us ws : List Value} {vs zs : List V} {Q : VK}
    (T : OwnE X.K C) (iC : findIn X.K (.ref C) "__init__" = some (some (.ref fI))) (tI : typeIn X.K (.ref fI) = some (.type "function")) (F1 : FnOk X.prog X.w X.K X.mg X.base CX0 k fI fd ps sp) (hr : Room (k + 1) X.A)
    (hb : KwOk X.K fd ps ks n m) (r : Vals vs us) (rz : Vals zs ws) (hn : us.length = n) (hm : ws.length = m) (hz : us.length ≤ 1000) (I : Inv X pins σ H s)
    (h : ∀ a, H a = none → sp (.ref a :: (vs ++ zs)) (upd H a (exo a C none)) Q E0) (back : ∀ u v H' s' a, H a = none → L2.RelV v u → Q v H' → u = Value.none ∧ (s'.os = s.os → AllBare s'.gens → HOk X.prog X.w H' s'.heap →
      ∀ hp2 : Heap, (∀ b o, s.heap.get? b = some o → hp2.get? b = some o) → s.heap.objs.size ≤ a → Un (frs X.stack) [] (upd H a (exo a C none)) H' hp2 s'.heap → R (.ok (.ret (.ref a))) s')) :
    codeAny (model X.prog X.w) X.A (.call (.ref C) ⟨us, ks.zip ws⟩) R s := by
  obtain ⟨nm, q, N, bs, bm, sn, sub, ab, col, dd, k0, k1, k2, k3, k5, hC, hbm⟩ := T.obj
  obtain ⟨hp, g, dr, tk, os⟩ := s
  have big : hp.objs.size ≤ hp.objs.size + 1 := Nat.le_succ _
  have none1 : H (hp.objs.size + 1) = none := I.hok.fresh big
  have old : ∀ b o, hp.get? b = some o → ((hp.push (PySem.W.kdv_tup us)).push (HandSPX.excO C hp.objs.size)).get? b = some o := fun b o e => Heap.get?_push_of_some _ (Heap.get?_push_of_some _ e)
  have new : ((hp.push (PySem.W.kdv_tup us)).push (HandSPX.excO C hp.objs.size)).get? (hp.objs.size + 1) = some (HandSPX.excO C hp.objs.size) := by heap_get
  have J : Inv X pins σ (upd H (hp.objs.size + 1) (exo (hp.objs.size + 1) C none)) ⟨(hp.push (PySem.W.kdv_tup us)).push (HandSPX.excO C hp.objs.size), g, dr, tk, os⟩ := I.laid (t' := tk) old big (exo_ok new)
  have rr : Vals (V.ref (hp.objs.size + 1) :: (vs ++ zs)) (Value.ref (hp.objs.size + 1) :: (us ++ ws)) := .cons rfl (r.append rz)
  have line : us.length ≤ sizeLine := by
    rw [sizeLine_eq]
    omega
  refine called F.excBase_Exception (fun n => PySem.W.excTail_contains n bm hbm) (I.kIn _ _ hC) line (PySem.W.looks_findIn I.kIn iC) (fun self => PySem.W.bind_fn I.kIn self tI) ?_
  refine codeAny_mono (F1.run _ X.stack _ _ ⟨.ref (hp.objs.size + 1) :: us, ks.zip ws⟩ _ _ Q E0 (hr.make C us (ks.zip ws)) (J.env0.make C us (ks.zip ws)) (hb _ _ us ws J.kIn hn hm) rr (h _ none1)) ?_
  intro r s' z
  match r, z with
  | .error er, z => exact z.elim
  | .ok .next, z => exact z.elim
  | .ok .brk, z => exact z.elim
  | .ok .cont, z => exact z.elim
  | .ok (.ret u), ⟨v, H2, os2, bare2, un2, hok2, rv, q2⟩ =>
    obtain ⟨e1, fin⟩ := back u v H2 s' (hp.objs.size + 1) none1 rv q2
    exact ⟨e1, fin os2 bare2 hok2 _ old big un2⟩
/-- .. held as a value -/
theorem run_mkv {k n m : Nat} {fd : FuncData} {ps ks : List Str} {sp : Sp} {us ws : List Value} {vs zs : List V} {Q : VK}
    (T : OwnE X.K C) (iC : findIn X.K (.ref C) "__init__" = some (some (.ref fI))) (tI : typeIn X.K (.ref fI) = some (.type "function")) (F1 : FnOk X.prog X.w X.K X.mg X.base CX0 k fI fd ps sp) (hr : Room (k + 1) X.A)
    (hb : KwOk X.K fd ps ks n m) (r : Vals vs us) (rz : Vals zs ws) (hn : us.length = n) (hm : ws.length = m) (hz : us.length ≤ 1000) (I : Inv X pins σ H s)
    (h : ∀ a, H a = none → sp (.ref a :: (vs ++ zs)) (upd H a (exo a C none)) (fun v H3 => v = .non ∧ Q (.ref a) H3) E0) :
    wpAny (model X.prog X.w) X.A (call (.ref C) us (ks.zip ws)) (EP X pins σ Q) X.xe s := by
  obtain ⟨nm, q, N, bs, bm, sn, sub, ab, col, dd, k0, k1, k2, k3, k5, hC, hbm⟩ := T.obj
  obtain ⟨hp, g, dr, tk, os⟩ := s
  have big : hp.objs.size ≤ hp.objs.size + 1 := Nat.le_succ _
  have none1 : H (hp.objs.size + 1) = none := I.hok.fresh big
  have old : ∀ b o, hp.get? b = some o → ((hp.push (PySem.W.kdv_tup us)).push (HandSPX.excO C hp.objs.size)).get? b = some o := fun b o e => Heap.get?_push_of_some _ (Heap.get?_push_of_some _ e)
  have new : ((hp.push (PySem.W.kdv_tup us)).push (HandSPX.excO C hp.objs.size)).get? (hp.objs.size + 1) = some (HandSPX.excO C hp.objs.size) := by heap_get
  have J : Inv X pins σ (upd H (hp.objs.size + 1) (exo (hp.objs.size + 1) C none)) ⟨(hp.push (PySem.W.kdv_tup us)).push (HandSPX.excO C hp.objs.size), g, dr, tk, os⟩ := I.laid (t' := tk) old big (exo_ok new)
  have rr : Vals (V.ref (hp.objs.size + 1) :: (vs ++ zs)) (Value.ref (hp.objs.size + 1) :: (us ++ ws)) := .cons rfl (r.append rz)
  have line : us.length ≤ sizeLine := by
    rw [sizeLine_eq]
    omega
  refine wpAny_call (called F.excBase_Exception (fun n => PySem.W.excTail_contains n bm hbm) (I.kIn _ _ hC) line (PySem.W.looks_findIn I.kIn iC) (fun self => PySem.W.bind_fn I.kIn self tI) ?_)
  refine codeAny_mono (F1.run _ X.stack _ _ ⟨.ref (hp.objs.size + 1) :: us, ks.zip ws⟩ _ _ _ E0 (hr.make C us (ks.zip ws)) (J.env0.make C us (ks.zip ws)) (hb _ _ us ws J.kIn hn hm) rr (h _ none1)) ?_
  intro r s' z
  match r, z with
  | .error er, z => exact z.elim
  | .ok .next, z => exact z.elim
  | .ok .brk, z => exact z.elim
  | .ok .cont, z => exact z.elim
  | .ok (.ret u), z =>
    obtain ⟨v, H2, J2, rv, e, q2⟩ := J.after z
    subst e
    exact ⟨rv, .ref (hp.objs.size + 1), H2, J2, rfl, q2⟩
/-- C(e, ..) -/
theorem pe_mkv {k n : Nat} {fd : FuncData} {ps : List Str} {sp : Sp} (T : OwnE X.K C) (iC : findIn X.K (.ref C) "__init__" = some (some (.ref fI))) (tI : typeIn X.K (.ref fI) = some (.type "function"))
    (F1 : FnOk X.prog X.w X.K X.mg X.base CX0 k fI fd ps sp) (hr : Room (k + 1) X.A) (hb : KwOk X.K fd ps [] n 0) (hg : Gl X x) (hm : X.mg x = some (.ref C)) (ha : PA X (e :: es) ta)
    (hdb : (x == ("__debug__" : Str)) = false := by decide) (he : starEach (e :: es) X.env = (false, eval e X.env) :: starEach es X.env := by rfl) (hpl : (backTo pos (starEach es X.env)).any (·.1) = false := by rfl) :
    PE X (.Call (.Name x p) (e :: es) [] pos) (fun σ H Q => ta σ H fun vs H1 => vs.length = n ∧ n ≤ 1000 ∧ ∀ a, H1 a = none → sp (.ref a :: vs) (upd H1 a (exo a C none)) (fun v H3 => v = .non ∧ Q (.ref a) H3) E0) := by
  refine ⟨fun pins s σ H Q I h => wpAny_Call_Name_kw (ld_glob I hg hm ?_ hdb)⟩
  refine PySem.W.callWith_K (h₀ := X.base) I.ok.mod.kin T.kC (thn (ha.run pos pins s σ H _ I h) ?_) he hpl
  rintro us s1 ⟨vs, H1, I1, r1, rfl, hz, q1⟩
  have := run_mkv (ks := []) (ws := []) (zs := []) T iC tI F1 hr hb r1 .nil r1.length.symm rfl (by rw [← r1.length]; exact hz) I1 (fun a na => by simpa using q1 a na)
  exact ⟨I1.kIn, this⟩
/-- C() -/
theorem pe_mkv0 {k : Nat} {fd : FuncData} {ps : List Str} {sp : Sp} (T : OwnE X.K C) (iC : findIn X.K (.ref C) "__init__" = some (some (.ref fI))) (tI : typeIn X.K (.ref fI) = some (.type "function"))
    (F1 : FnOk X.prog X.w X.K X.mg X.base CX0 k fI fd ps sp) (hr : Room (k + 1) X.A) (hb : KwOk X.K fd ps [] 0 0) (hg : Gl X x) (hm : X.mg x = some (.ref C)) (hdb : (x == ("__debug__" : Str)) = false := by decide) :
    PE X (.Call (.Name x p) [] [] pos) (fun σ H Q => ∀ a, H a = none → sp [.ref a] (upd H a (exo a C none)) (fun v H3 => v = .non ∧ Q (.ref a) H3) E0) := by
  refine ⟨fun pins s σ H Q I h => wpAny_Call_Name_kw (ld_glob I hg hm ?_ hdb)⟩
  refine PySem.W.callWith_K0 I.kIn T.kC ?_
  exact run_mkv (ks := []) (us := []) (ws := []) (vs := []) (zs := []) T iC tI F1 hr hb .nil .nil rfl rfl (Nat.zero_le _) I (fun a na => h a na)
/-- C(k = e, ..) -/
theorem pe_mkvK {k m : Nat} {fd : FuncData} {ps ks : List Str} {sp : Sp} {kws : List Keyword} {tk : TA} (T : OwnE X.K C) (iC : findIn X.K (.ref C) "__init__" = some (some (.ref fI))) (tI : typeIn X.K (.ref fI) = some (.type "function"))
    (F1 : FnOk X.prog X.w X.K X.mg X.base CX0 k fI fd ps sp) (hr : Room (k + 1) X.A) (hb : KwOk X.K fd ps ks 0 m) (hg : Gl X x) (hm : X.mg x = some (.ref C)) (hkw : PK X kws tk)
    (hall : (backToKw pos (keywordEach kws X.env)).all (·.1.isSome) = true := by rfl) (hks : (backToKw pos (keywordEach kws X.env)).filterMap (·.1) = ks := by rfl) (hdb : (x == ("__debug__" : Str)) = false := by decide)
    (hpl : ((backTo pos (starEach [] X.env)).any (·.1) || (backToKw pos (keywordEach kws X.env)).any (·.1.isNone)) = false := by rfl) :
    PE X (.Call (.Name x p) [] kws pos) (fun σ H Q => tk σ H fun zs H1 => zs.length = m ∧ ∀ a, H1 a = none → sp (.ref a :: zs) (upd H1 a (exo a C none)) (fun v H3 => v = .non ∧ Q (.ref a) H3) E0) := by
  refine ⟨fun pins s σ H Q I h => wpAny_Call_Name_kw (ld_glob I hg hm ?_ hdb)⟩
  refine PySem.W.callWith_KW0 (h₀ := X.base) I.ok.mod.kin T.kC hall (thn (hkw.run pos pins s σ H _ I h) ?_) hpl
  rintro ws s1 ⟨zs, H1, I1, r1, rfl, q1⟩
  refine ⟨I1.kIn, ?_⟩
  rw [hks]
  exact run_mkv (us := []) (vs := []) T iC tI F1 hr hb .nil r1 rfl r1.length.symm (Nat.zero_le _) I1 q1
end
end Zk

set_option maxHeartbeats 4000000
/-! E3: own errors: fields, isinstance, raise. -/
namespace Zk
open PySem PySem.Spec PyProof.Rows L2
open PySem.W (findIn subIn typeIn keepIn excTail)
section
variable {X : Cx} {o e : Expr} {es : List Expr} {to te : TE} {ta : TA} {f : Str} {p p' p1 p2 pos : Pos} {B C fI : Addr} {x : Str} {pins : List (Addr × Obj)} {σ : List (Option V)} {H : Hp} {s : Shared}
/-- how a tracked error stands, for the library's rules -/
theorem err_inst {a d : Addr} {fs : List (Str × V)} (I : Inv X pins σ H s) (h1 : H a = some (exo a C (some d))) (h2 : H d = some (exd d fs)) :
    ∃ (ox od : Obj) (mA : Str → Option Value), PySem.W.InstAt s.heap a ox C (some od) ∧ s.heap.Ns1 d mA ∧ s.heap.get? d = some od ∧ ∀ g, RelO (fs.lookup g) (mA g) := by
  obtain ⟨t1, ho⟩ := exo_at I.hok h1
  obtain ⟨mA, hn, rel⟩ := exd_at I.hok h2
  obtain ⟨od, hd, _⟩ := lookIn_ns hn
  exact ⟨_, od, mA, ⟨ho, rfl, rfl, hd⟩, hn, hd, rel⟩
/-- e.f, e a tracked error -/
def tErrF (K : PySem.W.Frag) (f : Str) (te : TE) : TE := fun σ H Q => te σ H fun x H1 => ∃ (a C d : Addr) (fs : List (Str × V)) (v : V), x = .ref a ∧ OwnE K C ∧ findIn K (.ref C) f = some none ∧ H1 a = some (exo a C (some d)) ∧ H1 d = some (exd d fs) ∧ fs.lookup f = some v ∧ Q v H1
theorem pe_errf (he : PE X e te) (hb : attributeBase e f X.env (eval e X.env) = eval e X.env := by rfl) : PE X (.Attribute e f pos) (tErrF X.K f te) := by
  refine ⟨fun pins s σ H Q I h => attr_of hb (thn (he.run pins s σ H _ I h) ?_)⟩
  rintro u s1 ⟨x, H1, I1, rx, a, C, d, fs, v, rfl, T, hno, h1, h2, hl, q⟩
  obtain rfl : u = Value.ref a := rx
  obtain ⟨t1, ho⟩ := exo_at I1.hok h1
  obtain ⟨mA, hn, rel⟩ := exd_at I1.hok h2
  obtain ⟨od, hd, hlk⟩ := lookIn_ns hn
  obtain ⟨w, hw, rw_⟩ := RelO.some_of (v := v) (o := mA f) (by rw [← hl]; exact rel f)
  have J : PySem.W.InstAt s1.heap a _ C (some od) := ⟨ho, rfl, rfl, hd⟩
  obtain ⟨cd, hcd, hdict, _⟩ := T.cd
  have hdc : PySem.W.hasDictIn X.K C = true := by
    unfold PySem.W.hasDictIn
    rw [hcd]
    exact hdict
  exact HandSPX.exc_get I1.kIn J T.ga T.gg T.exC (PySem.W.findObj_own hdc hno rfl (by rw [hlk, hw])) (handed_of rw_) ⟨v, H1, I1.tok _, rw_, q⟩
/-- isinstance(e, c) of a tracked error, with its dict or without -/
def rIsErr (K : PySem.W.Frag) : List V → Hp → VK → Prop := fun xs H Q => ∃ (a C : Addr) (c : V) (u : Value) (b : Bool), xs = [.ref a, c] ∧ ClsV c u ∧ OwnE K C ∧ ClsG K ∧ (H a = some (exo a C none) ∨ ∃ f v, ErrAt H C f v a) ∧ PySem.W.kitOne K (.ref C) u = some b ∧ Q (.bl b) H
def rIsErrT (K : PySem.W.Frag) : List V → Hp → VK → Prop := fun xs H Q => ∃ (a C tp : Addr) (cs : List V) (us : List Value) (b : Bool), xs = [.ref a, .ref tp] ∧ H tp = some (.tup cs) ∧ Paired ClsV cs us ∧ OwnE K C ∧ ClsG K ∧ (H a = some (exo a C none) ∨ ∃ f v, ErrAt H C f v a) ∧
  PySem.W.kitAny K (.ref C) us = some b ∧ Q (.bl b) H
theorem err_kit {a : Addr} (I : Inv X pins σ H s) (T : OwnE X.K C) (G : ClsG X.K) (h : H a = some (exo a C none) ∨ ∃ f v, ErrAt H C f v a) : ∃ P : Heap → Prop, PySem.W.KitX X.K (.ref a) (.ref C) P ∧ P s.heap := by
  rcases h with h | ⟨f, v, d, h1, h2⟩
  · obtain ⟨t1, ho⟩ := exo_at I.hok h
    exact ⟨_, PySem.W.kitx_exc (od := none) T.isCls T.ga T.gg T.exC T.ca G.sp G.tk (T.mro (by decide +kernel)), ⟨ho, rfl, rfl, trivial⟩⟩
  · obtain ⟨ox, od, mA, J, _⟩ := err_inst I h1 h2
    exact ⟨_, PySem.W.kitx_exc (od := some od) T.isCls T.ga T.gg T.exC T.ca G.sp G.tk (T.mro (by decide +kernel)), J⟩
theorem call_isErr : CallR X (.builtin "isinstance") (rIsErr X.K) := by
  intro pins s σ H xs us Q I r h
  obtain ⟨a, C, c, u, b, rfl, k, T, G, hh, e, q⟩ := h
  obtain ⟨u1, u2, rfl, r1, r2⟩ := vals2 r
  obtain rfl : u1 = Value.ref a := r1
  have e2 := k.eq r2
  subst e2
  obtain ⟨P, Z, hp⟩ := err_kit I T G hh
  exact PySem.W.kia_one Z I.kIn hp e (fun z => nomatch z) fun tk => ⟨.bl b, H, I.tok tk, rfl, q⟩
theorem call_isErrT : CallR X (.builtin "isinstance") (rIsErrT X.K) := by
  intro pins s σ H xs us Q I r h
  obtain ⟨a, C, tp, cs, ws, b, rfl, hT, k, T, G, hh, e, q⟩ := h
  obtain ⟨u1, u2, rfl, r1, r2⟩ := vals2 r
  obtain rfl : u1 = Value.ref a := r1
  obtain rfl : u2 = Value.ref tp := r2
  obtain ⟨P, Z, hp⟩ := err_kit I T G hh
  obtain ⟨_, its, rv, o, h1, h2, n, h3⟩ := I.hok tp _ hT
  have e3 := ClsV.all k rv
  subst e3
  obtain ⟨oc, od, dt, sl⟩ := o
  cases (show oc = _ from h2)
  cases (show dt = _ from h3)
  exact PySem.W.kia_tup Z I.kIn hp h1 e (fun z => nomatch z) fun tk => ⟨.bl b, H, I.tok tk, rfl, q⟩

/-! ### raised -/
theorem err_raises (T : OwnE X.K C) : Raises X (.ref C) := raises_own T.exC T.tyC
/-- what __init__ must leave, for the error to be raised -/
def made (C : Addr) (H1 : Hp) (a : Addr) (Q : XK) : VK := fun v H3 => v = .non ∧ ∃ (d : Addr) (fs : List (Str × V)), H3 a = some (exo a C (some d)) ∧ H3 d = some (exd d fs) ∧ H1 d = none ∧ Q (.ref C) (some d) (upd (del H3 a) d (.xd fs))
theorem run_mkx {k n m : Nat} {fd : FuncData} {ps ks : List Str} {sp : Sp} {us ws : List Value} {vs zs : List V} {Q : XK}
    (T : OwnE X.K C) (iC : findIn X.K (.ref C) "__init__" = some (some (.ref fI))) (tI : typeIn X.K (.ref fI) = some (.type "function")) (F1 : FnOk X.prog X.w X.K X.mg X.base CX0 k fI fd ps sp) (hr : Room (k + 1) X.A)
    (hb : KwOk X.K fd ps ks n m) (r : Vals vs us) (rz : Vals zs ws) (hn : us.length = n) (hm : ws.length = m) (hz : us.length ≤ 1000) (I : Inv X pins σ H s)
    (h : ∀ a, H a = none → sp (.ref a :: (vs ++ zs)) (upd H a (exo a C none)) (made C H a Q) E0) : wpAny (model X.prog X.w) X.A (call (.ref C) us (ks.zip ws)) (MkP X pins σ Q) X.xe s := by
  obtain ⟨nm, q, N, bs, bm, sn, sub, ab, col, dd, k0, k1, k2, k3, k5, hC, hbm⟩ := T.obj
  obtain ⟨hp, g, dr, tk, os⟩ := s
  have big : hp.objs.size ≤ hp.objs.size + 1 := Nat.le_succ _
  have none1 : H (hp.objs.size + 1) = none := I.hok.fresh big
  have old : ∀ b o, hp.get? b = some o → ((hp.push (PySem.W.kdv_tup us)).push (HandSPX.excO C hp.objs.size)).get? b = some o := fun b o e => Heap.get?_push_of_some _ (Heap.get?_push_of_some _ e)
  have new : ((hp.push (PySem.W.kdv_tup us)).push (HandSPX.excO C hp.objs.size)).get? (hp.objs.size + 1) = some (HandSPX.excO C hp.objs.size) := by heap_get
  have J : Inv X pins σ (upd H (hp.objs.size + 1) (exo (hp.objs.size + 1) C none)) ⟨(hp.push (PySem.W.kdv_tup us)).push (HandSPX.excO C hp.objs.size), g, dr, tk, os⟩ := I.laid (t' := tk) old big (exo_ok new)
  have rr : Vals (V.ref (hp.objs.size + 1) :: (vs ++ zs)) (Value.ref (hp.objs.size + 1) :: (us ++ ws)) := .cons rfl (r.append rz)
  have line : us.length ≤ sizeLine := by
    rw [sizeLine_eq]
    omega
  refine wpAny_call (called F.excBase_Exception (fun n => PySem.W.excTail_contains n bm hbm) (I.kIn _ _ hC) line (PySem.W.looks_findIn I.kIn iC) (fun self => PySem.W.bind_fn I.kIn self tI) ?_)
  refine codeAny_mono (F1.run _ X.stack _ _ ⟨.ref (hp.objs.size + 1) :: us, ks.zip ws⟩ _ _ _ E0 (hr.make C us (ks.zip ws)) (J.env0.make C us (ks.zip ws)) (hb _ _ us ws J.kIn hn hm) rr (h _ none1)) ?_
  intro r s' z
  match r, z with
  | .error er, z => exact z.elim
  | .ok .next, z => exact z.elim
  | .ok .brk, z => exact z.elim
  | .ok .cont, z => exact z.elim
  | .ok (.ret u), ⟨v, H2, os2, bare2, un2, hok2, rv, e, d, fs, ea, ed, hd1, q2⟩ =>
    subst e
    obtain ⟨h2, g2, d2, t2, os'⟩ := s'
    exact ⟨rv, mk_end (err_raises T) I big old un2 hok2 os2 bare2 ea ed hd1 q2⟩
/-- raise C(e, ..) -/
theorem pmk_err {k n : Nat} {fd : FuncData} {ps : List Str} {sp : Sp} (T : OwnE X.K C) (iC : findIn X.K (.ref C) "__init__" = some (some (.ref fI))) (tI : typeIn X.K (.ref fI) = some (.type "function"))
    (F1 : FnOk X.prog X.w X.K X.mg X.base CX0 k fI fd ps sp) (hr : Room (k + 1) X.A) (hb : KwOk X.K fd ps [] n 0) (hg : Gl X x) (hm : X.mg x = some (.ref C)) (ha : PA X (e :: es) ta)
    (hdb : (x == ("__debug__" : Str)) = false := by decide) (he : starEach (e :: es) X.env = (false, eval e X.env) :: starEach es X.env := by rfl) (hpl : (backTo pos (starEach es X.env)).any (·.1) = false := by rfl) :
    PMk X (.Call (.Name x p) (e :: es) [] pos) (fun σ H Q => ta σ H fun vs H1 => vs.length = n ∧ n ≤ 1000 ∧ ∀ a, H1 a = none → sp (.ref a :: vs) (upd H1 a (exo a C none)) (made C H1 a Q) E0) := by
  intro pins s σ H Q I h
  refine wpAny_Call_Name_kw (ld_glob I hg hm ?_ hdb)
  refine PySem.W.callWith_K (h₀ := X.base) I.ok.mod.kin T.kC (thn (ha.run pos pins s σ H _ I h) ?_) he hpl
  rintro us s1 ⟨vs, H1, I1, r1, rfl, hz, q1⟩
  have := run_mkx (ks := []) (ws := []) (zs := []) T iC tI F1 hr hb r1 .nil r1.length.symm rfl (by rw [← r1.length]; exact hz) I1 (fun a na => by simpa using q1 a na)
  exact ⟨I1.kIn, this⟩
/-- raise C(k = e, ..) -/
theorem pmk_errK {k m : Nat} {fd : FuncData} {ps ks : List Str} {sp : Sp} {kws : List Keyword} {tk : TA} (T : OwnE X.K C) (iC : findIn X.K (.ref C) "__init__" = some (some (.ref fI))) (tI : typeIn X.K (.ref fI) = some (.type "function"))
    (F1 : FnOk X.prog X.w X.K X.mg X.base CX0 k fI fd ps sp) (hr : Room (k + 1) X.A) (hb : KwOk X.K fd ps ks 0 m) (hg : Gl X x) (hm : X.mg x = some (.ref C)) (hkw : PK X kws tk)
    (hall : (backToKw pos (keywordEach kws X.env)).all (·.1.isSome) = true := by rfl) (hks : (backToKw pos (keywordEach kws X.env)).filterMap (·.1) = ks := by rfl) (hdb : (x == ("__debug__" : Str)) = false := by decide)
    (hpl : ((backTo pos (starEach [] X.env)).any (·.1) || (backToKw pos (keywordEach kws X.env)).any (·.1.isNone)) = false := by rfl) :
    PMk X (.Call (.Name x p) [] kws pos) (fun σ H Q => tk σ H fun zs H1 => zs.length = m ∧ ∀ a, H1 a = none → sp (.ref a :: zs) (upd H1 a (exo a C none)) (made C H1 a Q) E0) := by
  intro pins s σ H Q I h
  refine wpAny_Call_Name_kw (ld_glob I hg hm ?_ hdb)
  refine PySem.W.callWith_KW0 (h₀ := X.base) I.ok.mod.kin T.kC hall (thn (hkw.run pos pins s σ H _ I h) ?_) hpl
  rintro ws s1 ⟨zs, H1, I1, r1, rfl, q1⟩
  refine ⟨I1.kIn, ?_⟩
  rw [hks]
  exact run_mkx (us := []) (vs := []) T iC tI F1 hr hb .nil r1 rfl r1.length.symm (Nat.zero_le _) I1 q1
end
end Zk

set_option maxHeartbeats 4000000
/-! E4: an error without fields raised; several except clauses that name the error. -/
namespace Zk
open PySem PySem.Spec PyProof.Rows L2
open PySem.W (findIn subIn typeIn keepIn excTail)
section
variable {X : Cx} {p pos : Pos} {C fI : Addr} {x : Str} {pins : List (Addr × Obj)} {σ : List (Option V)} {H H1 H2 : Hp} {s : Shared}
theorem mk_bare {hp hp2 h2 : Heap} {g1 g2 : Array GenState} {d1 d2 : Drawn} {t1 t2 : Nat} {os1 os2 : OsState} {a : Addr} {Q : XK} (T : OwnE X.K C) (I1 : Inv X pins σ H1 ⟨hp, g1, d1, t1, os1⟩) (ha : hp.objs.size ≤ a)
    (old : ∀ b o, hp.get? b = some o → hp2.get? b = some o) (un : Un (frs X.stack) [] (upd H1 a (exo a C none)) H2 hp2 h2) (hok : HOk X.prog X.w H2 h2) (ho : os2 = os1) (hb : AllBare g2) (ea : H2 a = some (exo a C none)) (q : Q (.ref C) none (del H2 a)) :
    MkP X pins σ Q (.ref a) ⟨h2, g2, d2, t2, os2⟩ := by
  obtain ⟨t0, hoe⟩ := exo_at hok ea
  have free1 : H1 a = none := I1.hok.fresh ha
  obtain ⟨G, in_, out⟩ := restrict h2 fun b => decide (b ≠ a)
  have at_ : ∀ b, b ≠ a → G.get? b = h2.get? b := fun b hb => in_ b (decide_eq_true hb)
  have gone : G.get? a = none := out a (by simp)
  have low : ∀ {b : Addr} {o : Obj}, hp.get? b = some o → b ≠ a := fun z => Nat.ne_of_lt (Nat.lt_of_lt_of_le (Heap.lt_size z) ha)
  have off : ∀ {b : Addr} {r : Option HO}, b ≠ a → H1 b = r → upd H1 a (exo a C none) b = r := fun n e => (upd_ne n).trans e
  have offS : ∀ {b : Addr} {o : HO}, H1 b = some o → b ≠ a := fun e => ne_of_none e free1
  have U : Un (frs X.stack) [] H1 (del H2 a) hp G := by
    constructor
    · exact fun b o z n hf hx => (at_ b (low z)).trans (un.keep b o (old b o z) (off (low z) n) hf hx)
    · intro b o z n hf hx
      obtain ⟨sl, e⟩ := un.slot b o (old b o z) (off (low z) n) hf hx
      exact ⟨sl, (at_ b (low z)).trans e⟩
    · exact fun b o z n hx => (del_ne (low z)).trans (un.free b o (old b o z) (off (low z) n) hx)
    · intro b o z hx
      obtain ⟨o', e⟩ := un.there b o (old b o z) hx
      exact ⟨o', (at_ b (low z)).trans e⟩
    · exact fun b xs z => (del_ne (offS z)).trans (un.tups b xs (off (offS z) z))
    · exact fun b o v z => (del_ne (offS z)).trans (un.frzs b o v (off (offS z) z))
    · intro b ps z
      obtain ⟨m, e⟩ := un.tbls b ps (off (offS z) z)
      exact ⟨m, (del_ne (offS z)).trans e⟩
  have ok3 : HOk X.prog X.w (del H2 a) G := by
    intro b o z
    have hba : b ≠ a := fun e => by
      rw [e, del_same] at z
      cases z
    rw [del_ne hba] at z
    have noa : ∀ {c : Addr} {u : HO}, u ≠ exo a C none → H2 c = some u → c ≠ a := fun n hc e => by
      rw [e, ea] at hc
      exact n (Option.some.inj hc).symm
    refine (hok b o z).stay (fun c v hc y => (at_ c ?_).trans y) (fun c hc => (del_ne (noa exo_own.symm hc)).trans hc) fun c xs hc => (del_ne (noa exo_tup.symm hc)).trans hc
    rcases hc with hc | hc
    · exact hc ▸ hba
    · exact noa exo_own.symm hc
  have J : Inv X pins σ (del H2 a) ⟨G, g2, d2, t2, os2⟩ := I1.call' (ch := []) ho U ok3 hb fun _ z => absurd z List.not_mem_nil
  refine ⟨a, _, _, ⟨G, g2, d2, t2, os2⟩, del H2 a, .ref C, none, rfl, J, fun b o z => ?_, gone, hoe, ⟨rfl, rfl⟩, rfl, rfl, del_same, rfl, hb, err_raises T, q⟩
  by_cases hba : b = a
  · rw [hba, gone] at z
    cases z
  · exact (at_ b hba).symm.trans z
/-- raise C() -/
theorem pmk_err0 {k : Nat} {fd : FuncData} {ps : List Str} {sp : Sp} (T : OwnE X.K C) (iC : findIn X.K (.ref C) "__init__" = some (some (.ref fI))) (tI : typeIn X.K (.ref fI) = some (.type "function"))
    (F1 : FnOk X.prog X.w X.K X.mg X.base CX0 k fI fd ps sp) (hr : Room (k + 1) X.A) (hb : KwOk X.K fd ps [] 0 0) (hg : Gl X x) (hm : X.mg x = some (.ref C)) (hdb : (x == ("__debug__" : Str)) = false := by decide) :
    PMk X (.Call (.Name x p) [] [] pos) (fun σ H Q => ∀ a, H a = none → sp [.ref a] (upd H a (exo a C none)) (fun v H3 => v = .non ∧ H3 a = some (exo a C none) ∧ Q (.ref C) none (del H3 a)) E0) := by
  intro pins s σ H Q I h
  refine wpAny_Call_Name_kw (ld_glob I hg hm ?_ hdb)
  refine PySem.W.callWith_K0 I.kIn T.kC ?_
  obtain ⟨nm, q, N, bs, bm, sn, sub, ab, col, dd, k0, k1, k2, k3, k5, hC, hbm⟩ := T.obj
  obtain ⟨hp, g, dr, tk, os⟩ := s
  have big : hp.objs.size ≤ hp.objs.size + 1 := Nat.le_succ _
  have none1 : H (hp.objs.size + 1) = none := I.hok.fresh big
  have old : ∀ b o, hp.get? b = some o → ((hp.push (PySem.W.kdv_tup [])).push (HandSPX.excO C hp.objs.size)).get? b = some o := fun b o e => Heap.get?_push_of_some _ (Heap.get?_push_of_some _ e)
  have new : ((hp.push (PySem.W.kdv_tup [])).push (HandSPX.excO C hp.objs.size)).get? (hp.objs.size + 1) = some (HandSPX.excO C hp.objs.size) := by heap_get
  have J : Inv X pins σ (upd H (hp.objs.size + 1) (exo (hp.objs.size + 1) C none)) ⟨(hp.push (PySem.W.kdv_tup [])).push (HandSPX.excO C hp.objs.size), g, dr, tk, os⟩ := I.laid (t' := tk) old big (exo_ok new)
  refine wpAny_call (called (us := []) (kw := []) F.excBase_Exception (fun n => PySem.W.excTail_contains n bm hbm) (I.kIn _ _ hC) (Nat.zero_le _) (PySem.W.looks_findIn I.kIn iC) (fun self => PySem.W.bind_fn I.kIn self tI) ?_)
  refine codeAny_mono (F1.run _ X.stack _ _ ⟨[.ref (hp.objs.size + 1)], []⟩ _ [.ref (hp.objs.size + 1)] _ E0 (hr.make C [] []) (J.env0.make C [] []) (hb _ _ [] [] J.kIn rfl rfl) (.cons rfl .nil) (h _ none1)) ?_
  intro r s' z
  match r, z with
  | .error er, z => exact z.elim
  | .ok .next, z => exact z.elim
  | .ok .brk, z => exact z.elim
  | .ok .cont, z => exact z.elim
  | .ok (.ret u), ⟨v, H2, os2, bare2, un2, hok2, rv, e, ea, q2⟩ =>
    subst e
    obtain ⟨h2, g2, d2, t2, os'⟩ := s'
    exact ⟨rv, mk_bare T I big old un2 hok2 os2 bare2 ea q2⟩
end

/-! ### try with several clauses 'except C as n' -/
/-- what the clauses wish of an exception of the body, one after the other; slot i is the name's -/
def wAll (K : PySem.W.Frag) (i : Nat) (Wout : WX) (D : Ends) : List (Value × (Addr → Value → Option Addr → TS)) → WX
  | [] => Wout
  | (c, ts) :: r => fun cls d σ H => ∃ b, PySem.W.exmOne K cls c = some b ∧
      (b = true → ∀ a, H a = none → ts a cls d { nx := fun σ' H' => D.nx (σ'.set i none) H', rt := D.rt, bk := fun σ' H' => D.bk (σ'.set i none) H', ct := fun σ' H' => D.ct (σ'.set i none) H' } (σ.set i (some (.ref a))) H) ∧
      (b = false → wAll K i Wout D r cls d σ H)
inductive ClausesOk (X : Cx) (n : Str) : List ExceptHandler → List (Value × (Addr → Value → Option Addr → TS)) → Prop
  | nil : ClausesOk X n [] []
  | cons {x : Str} {c : Value} {ts : Addr → Value → Option Addr → TS} {b₀ : Stmt} {suite : List Stmt} {np p2 : Pos} {hds : List ExceptHandler} {l : List (Value × (Addr → Value → Option Addr → TS))} (hc : Names X x c)
      (hsu : ∀ (a : Addr) (oe : Obj) (cls : Value) (d : Option Addr) (pn : List (Addr × Obj)), Zc cls d oe → (∃ vs, oe.data = .fields vs) → PSs (X.suite a ((a, oe) :: pn)) (b₀ :: suite) (ts a cls d)) (r : ClausesOk X n hds l) :
      ClausesOk X n (.ExceptHandler (some (.Name x np)) (some n) (b₀ :: suite) p2 :: hds) ((c, ts) :: l)
section
variable {X : Cx} {n : Str} {i : Nat} {body : List Stmt} {h₀ : ExceptHandler} {hds : List ExceptHandler} {l : List (Value × (Addr → Value → Option Addr → TS))} {pos : Pos} {tb : WX → TS} {Wout : WX}
theorem ps_try_all (hs : X.stack = X.env :: X.outer) (hf : X.env.frame = some X.env.locals) (hN : X.N.Nodup) (hi : X.N[i]? = some n) (hln : X.env.kindOf n = some .local) (tk : Takes X Wout)
    (hb : ∀ (W : WX) (pn : List (Addr × Obj)) (xe : Value → Shared → Prop), Takes (X.tr pn xe) W → PassesOwn (model X.prog X.w) X.A X.env xe → PSs (X.tr pn xe) body (tb W))
    (hh : ClausesOk X n (h₀ :: hds) l) : PS X (.Try body (h₀ :: hds) [] [] pos) (fun D σ H => tb (wAll X.K i Wout D l) D σ H) := by
  refine ⟨fun pins s σ H D I h => wpAny_Try_except ?_⟩
  have ok := I.ok
  have frames : X.A.frames = some (X.env :: X.outer) := by rw [ok.frames, hs]
  let xe' : Value → Shared → Prop := fun e s1 => wpAny (model X.prog X.w) X.A (noteFrame e X.env) (fun _ s2 => wpAny (model X.prog X.w) X.A (setFlight e none) (fun _ s3 => wpAny (model X.prog X.w) X.A (handleBy e X.env (h₀ :: hds)) (SP X pins D) X.xe s3) X.xe s2) X.xe s1
  have caught : Takes (X.tr (X.pn ++ pins) xe') (wAll X.K i Wout D l) := by
    rintro u s' ⟨a, B, sI, pins', σ', H', cls, d, rfl, J', nb, up, sky, na, os, ag, wish⟩
    have J : Inv X pins σ' H' sI := J'.ofTry ok
    rw [show (X.tr (X.pn ++ pins) xe').stack = X.env :: X.outer from hs] at sky
    show wpAny (model X.prog X.w) X.A (noteFrame (.ref a) X.env) _ _ _
    refine Sky.land Zc.steady frames hf sky fun h3 fl3 up3 => ?_
    have J3 : Inv X pins σ' H' { s' with heap := h3 } := J.landed nb fl3.1 (up.trans up3) os ag
    obtain ⟨oe3, vs3, he3, hz3, hd3⟩ := fl3.there
    have apart : a ∉ frs (X.env :: X.outer) := fun hm => by
      obtain ⟨_, o', e', hnf⟩ := fl3.2.2.1.mem hm
      rw [he3] at e'
      cases e'
      exact hnf _ hd3
    have nL : a ≠ X.env.locals := fun z => apart (List.mem_filterMap.mpr ⟨X.env, List.mem_cons_self, by rw [hf, z]⟩)
    have nF : a ∉ X.fs := fun hm => by
      obtain ⟨e, he, q⟩ := List.mem_filterMap.mp hm
      exact apart (List.mem_filterMap.mpr ⟨e, List.mem_cons_of_mem _ he, q⟩)
    have S3 := J3.suite he3 hd3 na nL nF
    have LT : PySem.W.Looks (model X.prog X.w) h3 (typeOf (.ref a)) cls := fun A Q E s k q => wpAny_typeOf_ref (k _ _ he3) (by rw [hz3.1]; exact q)
    have go : ∀ {hds' : List ExceptHandler} {l' : List (Value × (Addr → Value → Option Addr → TS))}, ClausesOk X n hds' l' → wAll X.K i Wout D l' cls d σ' H' →
        wpAny (model X.prog X.w) X.A (handleBy (.ref a) X.env hds') (SP X pins D) X.xe { s' with heap := h3 } := by
      intro hds' l' hk
      induction hk with
      | nil =>
        intro w
        refine wpAny_handleBy_nil ?_
        obtain ⟨_, _, _, oe, vs, T, oT, ts', he, hz, hd, h1, _⟩ := id fl3
        unfold PySem.passOn
        refine wpAny_bind (wpAny_field he hd h1 ?_)
        rw [if_neg (show ¬ ((Value.ref T == Value.none) = true) from by simp)]
        have out : wpAny (model X.prog X.w) X.A (setFlight (.ref a) X.env.frame) (fun _ s4 => wpAny (model X.prog X.w) X.A (throw (.ref a) : Sem Flow) (SP X pins D) X.xe s4) X.xe { s' with heap := h3 } := by
          rw [hf]
          refine HandSPX.setFlight_upZ fl3 fun h4 hh4 up4 => wpAny_throw (tk _ _ ⟨a, B, sI, pins, σ', H', cls, d, rfl, J, nb, (up.trans up3).trans up4, .inr (.inr ?_), na, os, ag, w⟩)
          rw [hs]
          exact hh4
        first
          | exact wpAny_bind (wpAny_pure (wpAny_bind out))
          | exact wpAny_bind out
      | @cons x c ts b₀ suite np p2 hds2 l2 hc hsu _ ih =>
        rintro ⟨b, hb1, yes, no⟩
        refine wpAny_handleBy_cons (codeAny_handlers_test ?_) (by intro q; cases q)
        have LM := PySem.W.exm_one (M := model X.prog X.w) J3.kIn LT hb1
        have name : ∀ {Q : Value → Shared → Prop} {E : Value → Shared → Prop}, Q c { s' with heap := h3 } → wpAny (model X.prog X.w) (X.A.mark (some (.ref a))) (eval (.Name x np) X.env) Q E { s' with heap := h3 } := fun q => by
          obtain ⟨hg, hdbg, hm | ⟨hm, hv, hnn⟩⟩ := hc
          · exact ld_glob (X := X.suite a ((a, oe3) :: (X.pn ++ pins))) S3 hg hm q hdbg
          · exact ld_blt (X := X.suite a ((a, oe3) :: (X.pn ++ pins))) S3 hg hm hv q hnn hdbg
        refine name (LM.here ?_)
        cases b with
        | false => exact ih (no rfl)
        | true =>
          refine codeAny_handlers_suite_as (HandSPX.lands_againZ fl3 fun h4 fl4 up4 => ?_)
          have J4 : Inv X pins σ' H' { s' with heap := h4 } := J.landed nb fl4.1 ((up.trans up3).trans up4) os ag
          obtain ⟨oe4, vs4, he4, hz4, hd4⟩ := fl4.there
          refine store_ok (X := X.suite a ((a, oe4) :: (X.pn ++ pins))) (v := .ref a) (J4.suite he4 hd4 na nL nF) hN hi (.inl hln) rfl (fun s5 S5 => ?_) (.inr hln)
          refine wpAny_mono ((hsu a oe4 cls d (X.pn ++ pins) hz4 ⟨_, hd4⟩).run [] s5 _ H' _ S5 (yes rfl a na)) (fun f s6 end6 => ?_) fun _ _ z => z.elim
          have leave : ∀ {σ6 : List (Option V)} {H6 : Hp} {Q : Shared → Prop}, Inv (X.suite a ((a, oe4) :: (X.pn ++ pins))) [] σ6 H6 s6 → (∀ s7, Inv X pins (σ6.set i none) H6 s7 → Q s7) →
              wpAny (model X.prog X.w) X.A (do bindName X.env n .none; unbindBehindTheSuite X.env n p2) (fun _ s7 => Q s7) X.xe s6 := fun S6 hq => gone_ok (S6.unsuite ok) hN hi hln hq
          match f, end6 with
          | .next, ⟨σ6, H6, S6, q6⟩ => exact leave S6 fun s7 J7 => ⟨_, _, J7, q6⟩
          | .brk, ⟨σ6, H6, S6, q6⟩ => exact leave S6 fun s7 J7 => ⟨_, _, J7, q6⟩
          | .cont, ⟨σ6, H6, S6, q6⟩ => exact leave S6 fun s7 J7 => ⟨_, _, J7, q6⟩
          | .ret u, ⟨v6, σ6, H6, S6, r6, q6⟩ => exact leave S6 fun s7 J7 => ⟨_, _, _, J7, r6, q6⟩
    exact go hh wish
  refine wpAny_mono ((hb _ _ xe' caught PassesOwn.looking).run [] s σ H D (I.toTry _) h) (fun f s1 end1 => ?_) fun e s1 he => he
  match f, end1 with
  | .next, ⟨σ', H', J', q⟩ => exact wpAny_execs_nil ⟨σ', H', J'.ofTry ok, q⟩
  | .brk, ⟨σ', H', J', q⟩ => exact ⟨σ', H', J'.ofTry ok, q⟩
  | .cont, ⟨σ', H', J', q⟩ => exact ⟨σ', H', J'.ofTry ok, q⟩
  | .ret u, ⟨v, σ', H', J', r, q⟩ => exact ⟨v, σ', H', J'.ofTry ok, r, q⟩
end
end Zk

set_option maxHeartbeats 4000000
/-! D0: the deck that a law draws from, as it stands in the heap; sizes of what repr shows. No text of a program here. -/
namespace Zk
open PySem PySem.Spec PyProof.Rows L2

/-! ### small things -/
theorem same_new {H : Hp} {p : Addr} (h : H p = none) (o : HO) : Same H (upd H p o) := fun b u q => by
  rw [upd_ne (ne_of_none q h)]
  exact q
/-- both heaps get the same new object -/
theorem same_both {H0 H : Hp} {p : Addr} (e : Same H0 H) (o : HO) : Same (upd H0 p o) (upd H p o) := fun b u q => by
  by_cases hb : b = p
  · subst hb
    rw [upd_same] at q ⊢
    exact q
  · rw [upd_ne hb] at q ⊢
    exact e _ _ q
theorem same_out {H0 H : Hp} {p : Addr} (e : Same H0 H) (h : H0 p = none) (o : HO) : Same H0 (upd H p o) := fun b u q => by
  rw [upd_ne (ne_of_none q h)]
  exact e _ _ q
theorem sl_small {n : Nat} (h : n ≤ 100000) : n ≤ sizeLine := Nat.le_trans h (by decide)
theorem sl_lt {n : Nat} (h : n < 100000) : n < sizeLine := Nat.lt_of_lt_of_le h (by decide)
theorem ints_dp {K : PySem.W.Frag} {H : Hp} {a : Addr} {ns : List Int} (h : H a = some (.lst (ns.map V.int))) : Dp K H (.ref a) (.list (ns.map PyData.int)) := by
  refine .lst (SqL.of h) ?_
  clear h
  induction ns with
  | nil => exact .nil
  | cons n r ih => exact .cons (.int n) ih
theorem ints_lay : ∀ ns : List Int, PyData.canLayAll0 (ns.map PyData.int) = true
  | [] => by simp [PyData.canLayAll0]
  | n :: r => by simp [PyData.canLayAll0, PyData.canLay0, ints_lay r]
theorem ints_depth : ∀ ns : List Int, PyData.depthAll (ns.map PyData.int) = 0
  | [] => by simp [PyData.depthAll]
  | n :: r => by simp [PyData.depthAll, PyData.depth, ints_depth r]
theorem ints_shaped (ns : List Int) : SeqAt.shaped (.list (ns.map PyData.int)) = true := by
  simp [SeqAt.shaped, PyData.canLay0, ints_lay, PyData.depth, ints_depth]
theorem eqv_nil : ∀ ns : List Int, PyData.eqv (.list (ns.map PyData.int)) (.list []) = ns.isEmpty
  | [] => by simp [PyData.eqv, PyData.eqvAll]
  | n :: r => by simp [PyData.eqv, PyData.eqvAll]

/-! ### the deck -/
def deckL (lf : Addr) (mixed draws : Int) : List (Key × V) := [(.inr ("left" : Str), .ref lf), (.inr ("mixed" : Str), .int mixed), (.inr ("draws" : Str), .int draws)]
theorem k_lm : ¬ (Sum.inr ("left" : Str) : Key) = Sum.inr ("mixed" : Str) := by decide +kernel
theorem k_ld : ¬ (Sum.inr ("left" : Str) : Key) = Sum.inr ("draws" : Str) := by decide +kernel
theorem k_md : ¬ (Sum.inr ("mixed" : Str) : Key) = Sum.inr ("draws" : Str) := by decide +kernel
theorem k_dm : ¬ (Sum.inr ("draws" : Str) : Key) = Sum.inr ("mixed" : Str) := by decide +kernel
section
variable {lf : Addr} {m d x : Int}
theorem deck_left : valV (deckL lf m d) (.inr ("left" : Str)) = some (.ref lf) := valV_pos rfl
theorem deck_mixed : valV (deckL lf m d) (.inr ("mixed" : Str)) = some (.int m) := (valV_neg k_lm).trans (valV_pos rfl)
theorem deck_draws : valV (deckL lf m d) (.inr ("draws" : Str)) = some (.int d) := (valV_neg k_ld).trans ((valV_neg k_md).trans (valV_pos rfl))
theorem put_mixed : putK (deckL lf m d) (.inr ("mixed" : Str)) (.int x) = deckL lf x d := by
  have h : ((deckL lf m d).any fun kv => decide (kv.1 = Sum.inr ("mixed" : Str))) = true := by
    rw [valV_any, deck_mixed]
    rfl
  unfold putK
  rw [if_pos h]
  unfold deckL
  simp only [List.map_cons, List.map_nil, if_neg k_lm, if_neg k_dm, if_true]
theorem put_draws : putK (deckL lf m d) (.inr ("draws" : Str)) (.int x) = deckL lf m x := by
  have h : ((deckL lf m d).any fun kv => decide (kv.1 = Sum.inr ("draws" : Str))) = true := by
    rw [valV_any, deck_draws]
    rfl
  unfold putK
  rw [if_pos h]
  unfold deckL
  simp only [List.map_cons, List.map_nil, if_neg k_ld, if_neg k_md, if_true]
end
/-- a deck stands at dk in H, its list at lf, that has been drawn from at most B times; H0 is what else stands there and does not change -/
structure DeckAt (H0 H : Hp) (dk lf : Addr) (B : Nat) : Prop where
  same : Same H0 H
  off : H0 dk = none
  offl : H0 lf = none
  ex : ∃ (left : List Int) (mixed draws : Int), H dk = some (.dK (deckL lf mixed draws)) ∧ H lf = some (.lst (left.map V.int)) ∧ left.length ≤ 63 ∧ 0 ≤ mixed ∧ mixed < 2 ^ 31 ∧ 0 ≤ draws ∧ draws ≤ B
/-- what a step from H (of it H0 unchanging) to H' (of it H0' unchanging) may do beside the deck: lay new things -/
structure Grow (dk lf : Addr) (H0 H H0' H' : Hp) : Prop where
  same : Same H0 H0'
  frame : ∀ b o, b ≠ dk → b ≠ lf → H b = some o → H' b = some o
  fresh : ∀ b o, H b = some o → H0' b = H0 b
section
variable {H0 H H1 H2 H0' H0'' H' H'' : Hp} {dk lf p : Addr} {B B' : Nat} {o : HO}
theorem DeckAt.at_d (h : DeckAt H0 H dk lf B) : ∃ o, H dk = some o := by
  obtain ⟨_, _, _, e, _⟩ := h.ex
  exact ⟨_, e⟩
theorem DeckAt.at_l (h : DeckAt H0 H dk lf B) : ∃ o, H lf = some o := by
  obtain ⟨_, _, _, _, e, _⟩ := h.ex
  exact ⟨_, e⟩
theorem DeckAt.ned (h : DeckAt H0 H dk lf B) (hp : H p = none) : dk ≠ p := by
  obtain ⟨_, e⟩ := h.at_d
  exact ne_of_none e hp
theorem DeckAt.nel (h : DeckAt H0 H dk lf B) (hp : H p = none) : lf ≠ p := by
  obtain ⟨_, e⟩ := h.at_l
  exact ne_of_none e hp
theorem DeckAt.mono (h : DeckAt H0 H dk lf B) (hb : B ≤ B') : DeckAt H0 H dk lf B' := by
  obtain ⟨left, m, d, h1, h2, h3, h4, h5, h6, h7⟩ := h.ex
  exact ⟨h.same, h.off, h.offl, left, m, d, h1, h2, h3, h4, h5, h6, by omega⟩
/-- the deck's own two objects are as they were, what stands still stands -/
theorem DeckAt.move (h : DeckAt H0 H dk lf B) (s : Same H0' H') (e1 : H0' dk = none) (e2 : H0' lf = none) (d1 : H' dk = H dk) (d2 : H' lf = H lf) : DeckAt H0' H' dk lf B :=
  ⟨s, e1, e2, by rw [d1, d2]; exact h.ex⟩
/-- something new beside the deck -/
theorem DeckAt.new (h : DeckAt H0 H dk lf B) (hp : H p = none) : DeckAt (upd H0 p o) (upd H p o) dk lf B :=
  h.move (same_both h.same o) ((upd_ne (h.ned hp)).trans h.off) ((upd_ne (h.nel hp)).trans h.offl) (upd_ne (h.ned hp)) (upd_ne (h.nel hp))
/-- something new that may change later -/
theorem DeckAt.drop (h : DeckAt H0 H dk lf B) (hp : H p = none) : DeckAt H0 (upd H p o) dk lf B :=
  h.move (h.same.trans (same_new hp o)) h.off h.offl (upd_ne (h.ned hp)) (upd_ne (h.nel hp))
/-- something of our own, not among what stands still, changes -/
theorem DeckAt.change (h : DeckAt H0 H dk lf B) (n : H0 p = none) (n1 : dk ≠ p) (n2 : lf ≠ p) : DeckAt H0 (upd H p o) dk lf B :=
  h.move (same_out h.same n o) h.off h.offl (upd_ne n1) (upd_ne n2)
/-- .. and stands still from here on -/
theorem DeckAt.keep (h : DeckAt H0 H dk lf B) (e : H p = some o) (n1 : dk ≠ p) (n2 : lf ≠ p) : DeckAt (upd H0 p o) H dk lf B := by
  refine h.move (fun b u q => ?_) ((upd_ne n1).trans h.off) ((upd_ne n2).trans h.offl) rfl rfl
  by_cases hb : b = p
  · subst hb
    rw [upd_same] at q
    exact q ▸ e
  · rw [upd_ne hb] at q
    exact h.same _ _ q
theorem DeckAt.free (h : DeckAt H0 H dk lf B) (hp : H p = none) : H0 p = none := h.same.free hp
theorem Grow.refl : Grow dk lf H0 H H0 H := ⟨Same.refl _, fun _ _ _ _ e => e, fun _ _ _ => rfl⟩
theorem Grow.trans (a : Grow dk lf H0 H H0' H') (_ : DeckAt H0 H dk lf B) (h' : DeckAt H0' H' dk lf B') (b : Grow dk lf H0' H' H0'' H'') : Grow dk lf H0 H H0'' H'' where
  same := a.same.trans b.same
  frame := fun x o n1 n2 e => b.frame x o n1 n2 (a.frame x o n1 n2 e)
  fresh := fun x o e => by
    by_cases n1 : x = dk
    · obtain ⟨_, q⟩ := h'.at_d
      rw [b.fresh x _ (n1 ▸ q), a.fresh x o e]
    · by_cases n2 : x = lf
      · obtain ⟨_, q⟩ := h'.at_l
        rw [b.fresh x _ (n2 ▸ q), a.fresh x o e]
      · rw [b.fresh x o (a.frame x o n1 n2 e), a.fresh x o e]
theorem Grow.new (h : DeckAt H0 H dk lf B) (hp : H p = none) : Grow dk lf H0 H (upd H0 p o) (upd H p o) where
  same := same_new (h.free hp) o
  frame := fun b u _ _ e => same_new hp o _ _ e
  fresh := fun b u e => upd_ne (ne_of_none e hp)
theorem Grow.upd' (g : Grow dk lf H0 H H0' H') (n : H p = none) : Grow dk lf H0 H H0' (upd H' p o) := ⟨g.same, fun b u n1 n2 e => (upd_ne (ne_of_none e n)).trans (g.frame b u n1 n2 e), g.fresh⟩
/-- what is new stands still from here on -/
theorem Grow.keep (g : Grow dk lf H0 H H0' H') (n : H p = none) (n0 : H0' p = none) : Grow dk lf H0 H (upd H0' p o) H' :=
  ⟨g.same.trans (same_new n0 o), g.frame, fun b u e => (upd_ne (ne_of_none e n)).trans (g.fresh b u e)⟩
theorem Grow.drop (hp : H p = none) : Grow dk lf H0 H H0 (upd H p o) := ⟨Same.refl _, fun _ _ _ _ e => same_new hp o _ _ e, fun _ _ _ => rfl⟩
end

/-! ### how much repr shows -/
theorem list_len : ∀ ts : List Str, (listText ts).length ≤ piled ts + 2
  | [] => by decide +kernel
  | t :: r => by
    have h := textFrom_length_pos r 1 (("[" : Str) ++ (if (0 : Nat) > 0 then ", " else "" : String) ++ t) (Nat.succ_pos 0)
    have e1 : (listText (t :: r)).length = (textFrom 1 (("[" : Str) ++ (if (0 : Nat) > 0 then ", " else "" : String) ++ t) r).length + 1 := strLen_append _ _
    have e2 : (("[" : Str) ++ (if (0 : Nat) > 0 then ", " else "" : String) ++ t).length = 1 + t.length := by
      rw [strLen_append, strLen_append]
      rfl
    rw [e1, h, e2, piled_cons]
    omega
theorem tuple_len (ts : List Str) : (tupleText ts).length ≤ piled ts + 2 := fmt_text ts
theorem dict_len (ts : List Str) : (dictText ts).length ≤ piled ts + 2 := by
  have e : (dictText ts).length = 1 + (Str.join ", " ts).length + 1 := by
    unfold dictText
    rw [strLen_append, strLen_append]
    rfl
  by_cases h : ts = []
  · subst h
    decide +kernel
  · have := join_length_add ts h
    omega
theorem piled_le {n : Nat} : ∀ {ts : List Str}, (∀ t ∈ ts, t.length ≤ n) → piled ts ≤ ts.length * (n + 2)
  | [], _ => Nat.zero_le _
  | t :: r, h => by
    have h1 := h t List.mem_cons_self
    have h2 := piled_le fun u hu => h u (List.mem_cons_of_mem _ hu)
    rw [piled_cons, List.length_cons, Nat.succ_mul]
    omega
theorem shownAll_len : ∀ ds : List PyData, (PyData.shownAll ds).length = ds.length
  | [] => by simp [PyData.shownAll]
  | d :: r => by simp [PyData.shownAll, shownAll_len r]
theorem shownAll_mem {t : Str} : ∀ {ds : List PyData}, t ∈ PyData.shownAll ds → ∃ d ∈ ds, t = d.shown
  | [], h => by simp [PyData.shownAll] at h
  | d :: r, h => by
    simp only [PyData.shownAll, List.mem_cons] at h
    rcases h with h | h
    · exact ⟨d, List.mem_cons_self, h⟩
    · obtain ⟨e, he, q⟩ := shownAll_mem h
      exact ⟨e, List.mem_cons_of_mem _ he, q⟩
theorem showAll_of : ∀ {ds : List PyData}, (∀ d ∈ ds, d.showable = true) → PyData.showableAll ds = true
  | [], _ => by simp [PyData.showableAll]
  | d :: r, h => by
    simp only [PyData.showableAll, h d List.mem_cons_self, Bool.true_and]
    exact showAll_of fun e he => h e (List.mem_cons_of_mem _ he)
theorem depthAll_of {n : Nat} : ∀ {ds : List PyData}, (∀ d ∈ ds, d.depth ≤ n) → PyData.depthAll ds ≤ n
  | [], _ => by simp [PyData.depthAll]
  | d :: r, h => by
    have h1 := h d List.mem_cons_self
    have h2 := depthAll_of fun e he => h e (List.mem_cons_of_mem _ he)
    simp only [PyData.depthAll]
    omega
/-- d may be shown: at most dp deep, in at most ln signs -/
structure Fine (dp ln : Nat) (d : PyData) : Prop where
  able : d.showable = true
  deep : d.depth ≤ dp
  long : d.shown.length ≤ ln
theorem Fine.mono {a b a' b' : Nat} {d : PyData} (h : Fine a b d) (h1 : a ≤ a') (h2 : b ≤ b') : Fine a' b' d := ⟨h.able, Nat.le_trans h.deep h1, Nat.le_trans h.long h2⟩
theorem fine_list {a b : Nat} {ds : List PyData} (h : ∀ d ∈ ds, Fine a b d) : Fine (a + 1) (ds.length * (b + 2) + 2) (.list ds) where
  able := by simpa [PyData.showable] using showAll_of fun d hd => (h d hd).able
  deep := by
    have := depthAll_of fun d hd => (h d hd).deep
    simp only [PyData.depth]
    omega
  long := by
    have h1 := list_len (PyData.shownAll ds)
    have h2 := piled_le (ts := PyData.shownAll ds) (n := b) fun t ht => by
      obtain ⟨d, hd, e⟩ := shownAll_mem ht
      exact e ▸ (h d hd).long
    rw [shownAll_len] at h2
    simp only [PyData.shown]
    omega
theorem fine_tup {a b : Nat} {ds : List PyData} (h : ∀ d ∈ ds, Fine a b d) : Fine (a + 1) (ds.length * (b + 2) + 2) (.tuple ds) where
  able := by simpa [PyData.showable] using showAll_of fun d hd => (h d hd).able
  deep := by
    have := depthAll_of fun d hd => (h d hd).deep
    simp only [PyData.depth]
    omega
  long := by
    have h1 := tuple_len (PyData.shownAll ds)
    have h2 := piled_le (ts := PyData.shownAll ds) (n := b) fun t ht => by
      obtain ⟨d, hd, e⟩ := shownAll_mem ht
      exact e ▸ (h d hd).long
    rw [shownAll_len] at h2
    simp only [PyData.shown]
    omega
theorem fine_dict2 {a b : Nat} {k : Str} {i j : Int} {d : PyData} (hk : ∀ c ∈ k.cps.toList, c < 16 ^ 8) (hi : i.natAbs.log2 < 1920) (hj : j.natAbs.log2 < 1920) (h : Fine a b d) : Fine (a + 1) (10 * k.length + b + 4000) (.dict [(.str k, d), (.int i, .int j)]) where
  able := by simp [PyData.showable, PyData.showableKv, h.able, hi, hj]
  deep := by
    have := h.deep
    simp only [PyData.depth, PyData.depthKv]
    omega
  long := by
    have h1 := StrLaws.reprText_len k hk
    have h2 := h.long
    have e1 : (Str.ofString (toString i)).length ≤ 1921 := by
      rw [PySem.ofString_length]
      exact int_text_length_le (by decide) hi
    have e2 : (Str.ofString (toString j)).length ≤ 1921 := by
      rw [PySem.ofString_length]
      exact int_text_length_le (by decide) hj
    have e3 : ((": " : Str)).length = 2 := rfl
    simp only [PyData.shown, PyData.shownKv]
    refine Nat.le_trans (dict_len _) ?_
    simp only [piled_cons, piled_nil, strLen_append, e3]
    omega
theorem fine_int {i : Int} (h : i.natAbs.log2 < 1920) : Fine 0 1921 (.int i) where
  able := by simpa [PyData.showable] using h
  deep := by simp [PyData.depth]
  long := by
    simp only [PyData.shown]
    rw [PySem.ofString_length]
    exact int_text_length_le (by decide) h
theorem fine_bool (b : Bool) : Fine 0 5 (.bool b) := by
  refine ⟨by simp [PyData.showable], by simp [PyData.depth], ?_⟩
  cases b <;> (simp only [PyData.shown]; decide +kernel)
theorem fine_none : Fine 0 4 .none := ⟨by simp [PyData.showable], by simp [PyData.depth], by simp only [PyData.shown]; decide +kernel⟩
theorem fine_str {x : Str} (h : ∀ c ∈ x.cps.toList, c < 16 ^ 8) : Fine 0 (10 * x.length + 2) (.str x) :=
  ⟨by simp [PyData.showable], by simp [PyData.depth], by simpa only [PyData.shown] using StrLaws.reprText_len x h⟩
end Zk

set_option maxHeartbeats 4000000
/-! D1: the law's drawing defs. -/
namespace Zk
open PySem PySem.Spec PyProof.Rows L2
def top (i : Nat) : Stmt := PySem.Challenge.pw_narrowplay_k00_errors_by_position_and_by.main.body.getD i (.Pass ⟨0, 0, 0, 0⟩)
abbrev sDeck : Stmt := top 20
abbrev sDraw : Stmt := top 21
abbrev sPick : Stmt := top 22
abbrev sAny : Stmt := top 23

theorem cut_all {xs : List V} (h : xs.length ≤ 63) : cutV xs none (some 63) = xs := by
  have e : HT.sIx xs.length xs.length (some 63) = xs.length := (HT.sIx_nat xs.length xs.length 63).trans (by omega)
  unfold cutV
  rw [HT.sIx_none, e]
  simp
theorem int_item {ns : List Int} {i : Nat} {x : V} (h : (ns.map V.int)[i]? = some x) : ∃ u, x = .int u := by
  rw [List.getElem?_map] at h
  cases e : ns[i]? with
  | none => rw [e] at h; cases h
  | some u => rw [e] at h; exact ⟨u, (Option.some.inj h).symm⟩
theorem merge_deck {lf : Addr} {m d : Int} : mergeK [] (deckL lf m d) = deckL lf m d := by
  have h1 : putK ([] : List (Key × V)) (.inr ("left" : Str)) (.ref lf) = [(.inr ("left" : Str), .ref lf)] := rfl
  have h2 : putK [((Sum.inr ("left" : Str) : Key), V.ref lf)] (.inr ("mixed" : Str)) (.int m) = [((Sum.inr ("left" : Str) : Key), V.ref lf), ((Sum.inr ("mixed" : Str) : Key), V.int m)] := by
    unfold putK
    rw [valV_any, valV_neg k_lm]
    rfl
  have h3 : putK [((Sum.inr ("left" : Str) : Key), V.ref lf), ((Sum.inr ("mixed" : Str) : Key), V.int m)] (.inr ("draws" : Str)) (.int d) = deckL lf m d := by
    unfold putK
    rw [valV_any, valV_neg k_ld, valV_neg k_md]
    rfl
  have e : mergeK [] (deckL lf m d) = putK (putK (putK ([] : List (Key × V)) (.inr ("left" : Str)) (.ref lf)) (.inr ("mixed" : Str)) (.int m)) (.inr ("draws" : Str)) (.int d) := rfl
  rw [e, h1, h2, h3]
/-- _law_deck(script, seed): a new deck -/
def spDeck (K : PySem.W.Frag) : Sp := fun vs H Q _ => ∃ (a : Addr) (ns : List Int) (seed : Int), vs = [.ref a, .int seed] ∧ SqL K H a (ns.map V.int) ∧ ns.length ≤ 63 ∧ 0 ≤ seed ∧ seed < 2 ^ 31 ∧ ∀ p lf H', DeckAt H H' p lf 0 → Q (.ref p) H'
/-- _law_draw(deck, many): below many -/
def spDraw : Sp := fun vs H Q _ => ∃ (H0 : Hp) (dk lf : Addr) (B : Nat) (m : Int), vs = [.ref dk, .int m] ∧ DeckAt H0 H dk lf B ∧ B < 2 ^ 60 ∧ 0 < m ∧ m < 2 ^ 60 ∧ ∀ r H', 0 ≤ r → r < m → Grow dk lf H0 H H0 H' → DeckAt H0 H' dk lf (B + 1) → Q (.int r) H'
/-- _law_pick(deck, some): one of them -/
def spPick : Sp := fun vs H Q _ => ∃ (H0 : Hp) (dk lf l : Addr) (B : Nat) (xs : List V), vs = [.ref dk, .ref l] ∧ DeckAt H0 H dk lf B ∧ B < 2 ^ 60 ∧ H l = some (.lst xs) ∧ l ≠ dk ∧ l ≠ lf ∧ 0 < xs.length ∧ xs.length < 2 ^ 59 ∧
  ∀ v H', v ∈ xs → Grow dk lf H0 H H0 H' → DeckAt H0 H' dk lf (B + 1) → Q v H'
theorem get_draws {H : Hp} {dk lf : Addr} {m d : Int} (h : H dk = some (.dK (deckL lf m d))) : DGet H dk (.str "draws") (some (.int d)) := by
  have z := DGet.k (k := .inr ("draws" : Str)) h
  rw [deck_draws] at z
  exact z
theorem get_mixed {H : Hp} {dk lf : Addr} {m d : Int} (h : H dk = some (.dK (deckL lf m d))) : DGet H dk (.str "mixed") (some (.int m)) := by
  have z := DGet.k (k := .inr ("mixed" : Str)) h
  rw [deck_mixed] at z
  exact z
theorem get_left {H : Hp} {dk lf : Addr} {m d : Int} (h : H dk = some (.dK (deckL lf m d))) : DGet H dk (.str "left") (some (.ref lf)) := by
  have z := DGet.k (k := .inr ("left" : Str)) h
  rw [deck_left] at z
  exact z
theorem dput_draws {H : Hp} {dk lf : Addr} {m d x : Int} (h : H dk = some (.dK (deckL lf m d))) : DPut H dk (.str "draws") (.int x) (upd H dk (.dK (deckL lf m x))) := by
  have z := DPut.k (k := .inr ("draws" : Str)) (v := .int x) h (by show 3 < sizeLine; decide)
  rw [put_draws] at z
  exact z
theorem dput_mixed {H : Hp} {dk lf : Addr} {m d x : Int} (h : H dk = some (.dK (deckL lf m d))) : DPut H dk (.str "mixed") (.int x) (upd H dk (.dK (deckL lf x d))) := by
  have z := DPut.k (k := .inr ("mixed" : Str)) (v := .int x) h (by show 3 < sizeLine; decide)
  rw [put_mixed] at z
  exact z
/-- an if, and then what both of its ways come to -/
theorem seq_if {c : TT} {t1 t2 ts : TS} {D : Ends} {σ : List (Option V)} {H : Hp} (I : List (Option V) → Hp → Prop) (hI : ∀ σ H, I σ H → ts D σ H) (h : (∀ σ H, I σ H → ts D σ H) → tIfS c t1 t2 { D with nx := ts D } σ H) : tSeq (tIfS c t1 t2) ts D σ H := h hI
theorem same_at {H0 H : Hp} {a : Addr} (e : Same H0 H) (h : H0 a = none) (o : HO) : Same H0 (upd H a o) := same_out e h o
theorem last_at {ns : List Int} (h : ns ≠ []) : (ns.map V.int)[(ns.map V.int).length - 1]? = some (.int (ns.getLast h)) := by
  rw [List.length_map, List.getElem?_map, ← List.getLast?_eq_getElem?, List.getLast?_eq_some_getLast h]
  rfl
/-- from H to H' nothing has changed but at dk and lf, and new things -/
def Only2 (dk lf : Addr) (H H' : Hp) : Prop := ∀ b o, b ≠ dk → b ≠ lf → H b = some o → H' b = some o
section
variable {H0 H H' : Hp} {dk lf p : Addr} {o : HO}
theorem Only2.refl : Only2 dk lf H H := fun _ _ _ _ e => e
theorem Only2.at_d (h : Only2 dk lf H H') : Only2 dk lf H (upd H' dk o) := fun b u n1 n2 e => (upd_ne n1).trans (h b u n1 n2 e)
theorem Only2.at_l (h : Only2 dk lf H H') : Only2 dk lf H (upd H' lf o) := fun b u n1 n2 e => (upd_ne n2).trans (h b u n1 n2 e)
theorem Only2.new (h : Only2 dk lf H H') (hp : H' p = none) : Only2 dk lf H (upd H' p o) := fun b u n1 n2 e => same_new hp o _ _ (h b u n1 n2 e)
theorem Only2.same (h : Only2 dk lf H H') (s : Same H0 H) (h2 : H0 dk = none) (h3 : H0 lf = none) : Same H0 H' := fun b u e =>
  h b u (fun z => by rw [z, h2] at e; cases e) (fun z => by rw [z, h3] at e; cases e) (s _ _ e)
theorem Only2.grow (h : Only2 dk lf H H') (_ : Same H0 H) (_ : H0 dk = none) (_ : H0 lf = none) : Grow dk lf H0 H H0 H' := ⟨Same.refl _, h, fun _ _ _ => rfl⟩
end
/-- what the built-ins' names are -/
structure Blt (mg : Str → Option Value) : Prop where
  int : mg "int" = none
  list : mg "list" = none
  max : mg "max" = none
  len : mg "len" = none
  range : mg "range" = none
  tuple : mg "tuple" = none
  repr : mg "repr" = none
section
variable {P : Program} {w : World} {K : PySem.W.Frag} {mg : Str → Option Value} {base : Heap} {f : Addr} {fd : FuncData}
theorem scDeck : FnScope ["script", "seed", "mixed", "cell"] ["script", "seed"] (defScope sDeck) := ⟨rfl, rfl, rfl, by decide +kernel, rfl, by decide +kernel, by decide +kernel⟩
theorem ok_deck (F : Fun K "_law_deck" "_law_deck" sDeck f fd) (T : Blt mg) : FnOk P w K mg base CX0 1 f fd ["script", "seed"] (spDeck K) := by
  refine F.ok scDeck (fun vs H Q E h => ?_) (fun cdv A outer s H vs Q E hr h => ?_)
  · obtain ⟨a, ns, seed, rfl, _⟩ := h
    rfl
  obtain ⟨a, ns, seed, rfl, hS, hl, s0, s1, q⟩ := h
  refine ⟨_, pss_cons (ps_set (i := 2) scDeck.nd rfl (Or.inl rfl) (pv 1))
    (pss_cons (ps_for PassesOwn.never rfl (pi_list (pe_slice sl_list (pv 0) po_none (po_some pe_int))) (pg_name (i := 3) scDeck.nd rfl (Or.inl rfl))
      (pss_one (ps_set (i := 2) scDeck.nd rfl (Or.inl rfl) (pe_op op_mod (pe_callTy call_int1 (by rfl) T.int (by decide +kernel) (pa_cons
        (pe_op op_add (pe_op op_add (pe_op op_mul (pv 2) pe_int) (pe_op op_mod (pe_callTy call_int1 (by rfl) T.int (by decide +kernel) (pa_cons (pv 3) pa_nil)) pe_int)) pe_int) pa_nil)) pe_int))))
    (pss_one (ps_ret (pe_disp (pps_cons pe_str (pe_revL (pe_callTy call_list_of (by rfl) T.list (by decide +kernel) (pa_cons (pe_slice sl_list (pv 0) po_none (po_some pe_int)) pa_nil)))
      (pps_cons pe_str (pv 2) (pps_cons pe_str pe_int pps_nil))) rfl rfl (by intro z; cases z) (by decide))))), ?_⟩
  have hcut : cutV (ns.map V.int) none (some 63) = ns.map V.int := cut_all (by simpa using hl)
  refine ⟨_, rfl, _, rfl, 63, rfl, a, _, rfl, hS, fun p hp => ?_⟩
  rw [hcut]
  refine ⟨p, rfl, ⟨_, SqL.of upd_same⟩, for_list (K := K) (a := p) (xs := ns.map V.int) (fun _ σ' H' => ∃ (m : Int) (v : Option V), σ' = [some (.ref a), some (.int seed), some (.int m), v] ∧ 0 ≤ m ∧ m < 2 ^ 31 ∧ H' = upd H p (.lst (ns.map V.int)))
    ⟨seed, none, rfl, s0, s1, rfl⟩ (fun i σ' H' _ ⟨_, _, _, _, _, e⟩ => by rw [e]; exact SqL.of upd_same) ?_ ?_⟩
  · rintro i x σ' H' hx ⟨m, v, rfl, m0, m1, rfl⟩
    obtain ⟨u, rfl⟩ := int_item hx
    refine ⟨_, rfl, _, _, rfl, rfl, .inr ⟨by decide, by decide⟩, _, rfl, .inl ⟨_, rfl, _, _, rfl, rfl, (by show (0 : Int) < 2147483629; decide), _, _, rfl, rfl, _, _, rfl, rfl, .inl ⟨_, rfl, _, _, rfl, rfl, (by show (0 : Int) < 2147483563; decide), ?_⟩⟩⟩
    refine ⟨_, _, rfl, Int.emod_nonneg _ (by decide), ?_, rfl⟩
    have := Int.emod_lt_of_pos (m * 43987 + u % 2147483629 + 61) (show (0 : Int) < 2147483563 by decide)
    omega
  · rintro σ' H' ⟨m, v, rfl, m0, m1, rfl⟩
    have s1 : Same H (upd H p (.lst (ns.map V.int))) := same_new hp _
    refine fun d hd => ⟨_, rfl, 63, rfl, a, _, rfl, (s1.trans (same_new hd _)).seq hS, fun p2 hp2 => ?_⟩
    rw [hcut]
    refine ⟨p2, _, rfl, .inl (SqL.of upd_same), fun p3 hp3 => ⟨p3, _, rfl, SqL.of upd_same, fun p4 hp4 => ⟨_, rfl, ?_⟩⟩⟩
    have nd2 : d ≠ p2 := ne_of_none upd_same hp2
    have nd3 : d ≠ p3 := ne_of_none (same_new hp2 _ _ _ upd_same) hp3
    have nd4 : d ≠ p4 := ne_of_none (same_new hp3 _ _ _ (same_new hp2 _ _ _ upd_same)) hp4
    refine ⟨?_, deckL p4 m 0, rfl, (by show 3 ≤ 15; decide), ?_⟩
    · rw [upd_ne nd4, upd_ne nd3, upd_ne nd2, upd_same]
    rw [show mergeK [] (deckL p4 m 0) = deckL p4 m 0 from merge_deck]
    have s2 := s1.trans ((same_new hd (.dK [])).trans ((same_new hp2 (.lst (ns.map V.int))).trans ((same_new hp3 (.lst (ns.map V.int))).trans (same_new hp4 (.lst (ns.map V.int).reverse)))))
    have f4 : H p4 = none := (s1.trans ((same_new hd (.dK [])).trans ((same_new hp2 (.lst (ns.map V.int))).trans (same_new hp3 (.lst (ns.map V.int)))))).free hp4
    refine q d p4 _ ⟨same_out s2 (s1.free hd) _, s1.free hd, f4, ns.reverse, m, 0, upd_same, ?_, by simpa using hl, m0, m1, Int.le_refl 0, Int.le_refl 0⟩
    rw [upd_ne nd4.symm, upd_same, List.map_reverse]
theorem scDraw : FnScope ["deck", "many", "cell", "figure"] ["deck", "many"] (defScope sDraw) := ⟨rfl, rfl, rfl, by decide +kernel, rfl, by decide +kernel, by decide +kernel⟩
theorem ok_draw (F : Fun K "_law_draw" "_law_draw" sDraw f fd) (T : Blt mg) : FnOk P w K mg base CX0 1 f fd ["deck", "many"] spDraw := by
  refine F.ok scDraw (fun vs H Q E h => ?_) (fun cdv A outer s H vs Q E hr h => ?_)
  · obtain ⟨H0, dk, lf, B, m, rfl, _⟩ := h
    rfl
  obtain ⟨H0, dk, lf, B, m, rfl, ⟨h1, h2, h3, left, mixed, draws, h4, h5, h6, h7, h8, h9, h10⟩, hB, m0, m1, q⟩ := h
  have hu := hu_of hr
  refine ⟨_, pss_cons (ps_dput hu (pv 0) pe_str (pe_op op_add (pe_dget hu (pv 0) pe_str (fun _ _ => rfl)) pe_int) rfl)
    (pss_cons (ps_if (pt_cmpR (op_neD hr.units) (pe_dget hu (pv 0) pe_str (fun _ _ => rfl)) (pe_lst pa_nil) (nomark _))
      (pss_cons (ps_set (i := 2) scDraw.nd rfl (Or.inl rfl) (pe_bm0 PySem.F.plainAttrs_list PySem.F.slot_list_pop PySem.F.type_list_pop mt_pop (pe_dget hu (pv 0) pe_str (fun _ _ => rfl))))
        (pss_cons (ps_if (pt_cmpR op_ge (pv 2) (pe_op op_pow pe_int pe_int) (nomark _))
          (pss_cons (ps_expr (pe_bm PySem.F.plainAttrs_list PySem.F.slot_list_append PySem.F.type_list_append mt_append (pe_dget hu (pv 0) pe_str (fun _ _ => rfl)) (pa_cons (pe_op op_fdivW (pv 2) (pe_callB (call_max2 rfl) (by rfl) T.max (by decide +kernel) (pa_cons pe_int (pa_cons (pv 1) pa_nil)))) pa_nil)))
            (pss_one (ps_ret (pe_op op_mod (pe_callTy call_int1 (by rfl) T.int (by decide +kernel) (pa_cons (pv 2) pa_nil)) (pv 1))))) pss_nil)
        (pss_one (ps_dput hu (pv 0) pe_str (pe_op op_mod (pe_callTy call_int1 (by rfl) T.int (by decide +kernel) (pa_cons
          (pe_op op_add (pe_op op_add (pe_op op_mul (pe_dget hu (pv 0) pe_str (fun _ _ => rfl)) pe_int) (pe_op op_mod (pe_callTy call_int1 (by rfl) T.int (by decide +kernel) (pa_cons (pv 2) pa_nil)) pe_int)) pe_int) pa_nil)) pe_int) rfl)))) pss_nil)
    (pss_cons (ps_set (i := 3) scDraw.nd rfl (Or.inl rfl) (pe_op op_mod (pe_callTy call_int1 (by rfl) T.int (by decide +kernel) (pa_cons
        (pe_op op_add (pe_dget hu (pv 0) pe_str (fun _ _ => rfl)) (pe_op op_mul pe_int (pe_dget hu (pv 0) pe_str (fun _ _ => rfl)))) pa_nil)) pe_int))
    (pss_cons (ps_set (i := 3) scDraw.nd rfl (Or.inl rfl) (pe_op op_mod (pe_callTy call_int1 (by rfl) T.int (by decide +kernel) (pa_cons
        (pe_op op_add (pe_op op_add (pe_op op_mul (pv 3) (pv 3)) (pe_op op_mul pe_int (pe_dget hu (pv 0) pe_str (fun _ _ => rfl)))) pe_int) pa_nil)) pe_int))
    (pss_cons (ps_set (i := 3) scDraw.nd rfl (Or.inl rfl) (pe_op op_mod (pe_callTy call_int1 (by rfl) T.int (by decide +kernel) (pa_cons
        (pe_op op_add (pe_op op_mul (pv 3) pe_int) pe_int) pa_nil)) pe_int))
    (pss_one (ps_ret (pe_op op_mod (pe_callTy call_int1 (by rfl) T.int (by decide +kernel) (pa_cons (pe_op op_fdiv (pv 3) pe_int) pa_nil)) (pv 1)))))))), ?_⟩
  have nld : lf ≠ dk := ne_of h5 h4 (fun z => nomatch z)
  refine ⟨_, rfl, dk, _, rfl, get_draws h4, _, _, rfl, rfl, _, rfl, dk, _, rfl, dput_draws h4, ?_⟩
  dsimp only
  refine seq_if (fun σ' H' => ∃ (m' : Int) (left' : List Int) (c : Option V), σ' = [some (.ref dk), some (.int m), c, none] ∧ Only2 dk lf H H' ∧ H' dk = some (.dK (deckL lf m' (draws + 1))) ∧ H' lf = some (.lst (left'.map V.int)) ∧ left'.length ≤ 63 ∧ 0 ≤ m' ∧ m' < 2 ^ 31) ?_ ?_
  · rintro σ' H' ⟨m', left', c, rfl, e1, e2, e3, e4, e5, e6⟩
    have b1 : ∀ x : Int, 0 ≤ x % 2147483647 ∧ x % 2147483647 < 2147483647 := fun x => ⟨Int.emod_nonneg _ (by decide), Int.emod_lt_of_pos _ (by decide)⟩
    have b2 : ∀ x : Int, 0 ≤ x % 2147483629 ∧ x % 2147483629 < 2147483629 := fun x => ⟨Int.emod_nonneg _ (by decide), Int.emod_lt_of_pos _ (by decide)⟩
    have dlt : draws + 1 < 2 ^ 64 := by omega
    refine ⟨_, rfl, dk, _, rfl, get_mixed e2, _, rfl, dk, _, rfl, get_draws e2, _, _, rfl, rfl, .inl ⟨by decide, by decide⟩, _, _, rfl, rfl, .inl ⟨_, rfl, _, _, rfl, rfl, (by show (0 : Int) < 2147483647; decide), ?_⟩⟩
    obtain ⟨f0, f1⟩ := b1 (m' + 31337 * (draws + 1))
    generalize (m' + 31337 * (draws + 1)) % 2147483647 = g at f0 f1
    refine ⟨_, rfl, _, rfl, _, _, rfl, rfl, .inl ⟨by omega, by omega⟩, _, rfl, dk, _, rfl, get_draws e2, _, _, rfl, rfl, .inl ⟨by decide, by decide⟩, _, _, rfl, rfl, _, _, rfl, rfl, .inl ⟨_, rfl, _, _, rfl, rfl, (by show (0 : Int) < 2147483629; decide), ?_⟩⟩
    obtain ⟨k0, k1⟩ := b2 (g * g + 48271 * (draws + 1) + 67)
    generalize (g * g + 48271 * (draws + 1) + 67) % 2147483629 = k at k0 k1
    refine ⟨_, rfl, _, _, rfl, rfl, .inl ⟨by omega, by omega⟩, _, _, rfl, rfl, .inl ⟨_, rfl, _, _, rfl, rfl, (by show (0 : Int) < 2147483563; decide), ?_⟩⟩
    refine ⟨_, rfl, _, _, rfl, rfl, ⟨by decide, by decide⟩, .inl ⟨_, rfl, _, rfl, _, _, rfl, rfl, m0, ?_⟩⟩
    exact q _ _ (Int.emod_nonneg _ (by omega)) (Int.emod_lt_of_pos _ m0) (e1.grow h1 h2 h3) ⟨e1.same h1 h2 h3, h2, h3, left', m', draws + 1, e2, e3, e4, e5, e6, by omega, by omega⟩
  intro fin
  have g1 : Only2 dk lf H (upd H dk (.dK (deckL lf mixed (draws + 1)))) := Only2.refl.at_d
  have g5 : upd H dk (.dK (deckL lf mixed (draws + 1))) lf = some (.lst (left.map V.int)) := (upd_ne nld).trans h5
  refine ⟨_, rfl, dk, _, rfl, get_left upd_same, Nat.zero_le _, fun p hp => ?_⟩
  have npd : dk ≠ p := ne_of_none upd_same hp
  have npl : lf ≠ p := ne_of_none g5 hp
  have k1 : upd (upd H dk (.dK (deckL lf mixed (draws + 1)))) p (.lst []) dk = some (.dK (deckL lf mixed (draws + 1))) := (upd_ne npd).trans upd_same
  have k5 : upd (upd H dk (.dK (deckL lf mixed (draws + 1)))) p (.lst []) lf = some (.lst (left.map V.int)) := (upd_ne npl).trans g5
  have kS : Only2 dk lf H (upd (upd H dk (.dK (deckL lf mixed (draws + 1)))) p (.lst [])) := g1.new hp
  refine ⟨_, _, ints_dp k5, ints_dp (ns := []) upd_same, ints_shaped _, ints_shaped [], _, rfl, ?_⟩
  rw [show PyData.eqv (.list (left.map PyData.int)) (.list ([].map PyData.int)) = left.isEmpty from eqv_nil left]
  cases hl : left.isEmpty with
  | true =>
    refine iteF ?_
    exact fin _ _ ⟨mixed, left, none, rfl, kS, k1, k5, h6, h7, h8⟩
  | false =>
    refine iteT ?_
    have ne : left ≠ [] := fun z => by simp [z] at hl
    refine ⟨_, rfl, dk, _, rfl, get_left k1, .inl ⟨rfl, _, SqL.of k5⟩, lf, _, _, rfl, rfl, k5, last_at ne, ?_⟩
    generalize left.getLast ne = cell
    have ndl : (left.map V.int).dropLast = (left.dropLast).map V.int := (List.map_dropLast ..).symm
    have l63 : left.dropLast.length < 63 := by
      have : 0 < left.length := List.length_pos_iff.mpr ne
      rw [List.length_dropLast]
      omega
    rw [ndl]
    have j1 : upd (upd (upd H dk (.dK (deckL lf mixed (draws + 1)))) p (.lst [])) lf (.lst (left.dropLast.map V.int)) dk = some (.dK (deckL lf mixed (draws + 1))) := (upd_ne nld.symm).trans k1
    have jS : Only2 dk lf H (upd (upd (upd H dk (.dK (deckL lf mixed (draws + 1)))) p (.lst [])) lf (.lst (left.dropLast.map V.int))) := kS.at_l
    refine ⟨_, rfl, 10, 18, rfl, rfl, ⟨by decide, by decide, by decide⟩, _, _, rfl, rfl, _, rfl, ?_⟩
    refine ite2 (fun _ => ?_) (fun _ => ?_)
    · have mx : (0 : Int) < (if m > 2 then m else 2) ∧ (if m > 2 then m else 2 : Int) < 2 ^ 60 := by split <;> omega
      refine ⟨_, rfl, dk, _, rfl, get_left j1, .inl ⟨rfl, _, SqL.of upd_same⟩, _, rfl, _, rfl, 2, m, rfl, cell, _, rfl, rfl, wide_div (b := 60) mx.1 (by omega) (by decide) (by decide), lf, _, _, rfl, rfl, upd_same, (by rw [List.length_map]; exact sl_lt (by omega)), ?_⟩
      refine ⟨_, rfl, .inl ⟨_, rfl, _, rfl, _, _, rfl, rfl, m0, ?_⟩⟩
      have jT := jS.at_l (o := .lst (left.dropLast.map V.int ++ [.int (cell / (if m > 2 then m else 2))]))
      refine q _ _ (Int.emod_nonneg _ (by omega)) (Int.emod_lt_of_pos _ m0) (jT.grow h1 h2 h3) ⟨jT.same h1 h2 h3, h2, h3, left.dropLast ++ [cell / (if m > 2 then m else 2)], mixed, draws + 1, (upd_ne nld.symm).trans j1, ?_, by rw [List.length_append]; exact l63, h7, h8, by omega, by omega⟩
      rw [upd_same, List.map_append]
      rfl
    · have b : ∀ x : Int, 0 ≤ x % 2147483587 ∧ x % 2147483587 < 2147483587 := fun x => ⟨Int.emod_nonneg _ (by decide), Int.emod_lt_of_pos _ (by decide)⟩
      refine ⟨_, rfl, dk, _, rfl, get_mixed j1, _, _, rfl, rfl, .inr ⟨by decide, by decide⟩, _, rfl, .inl ⟨_, rfl, _, _, rfl, rfl, (by show (0 : Int) < 2147483629; decide), _, _, rfl, rfl, _, _, rfl, rfl, .inl ⟨_, rfl, _, _, rfl, rfl, (by show (0 : Int) < 2147483587; decide), _, rfl, dk, _, rfl, dput_mixed j1, ?_⟩⟩⟩
      obtain ⟨c0, c1⟩ := b (mixed * 39373 + cell % 2147483629 + 61)
      exact fin _ _ ⟨_, left.dropLast, some (.int cell), rfl, jS.at_d, upd_same, (upd_ne nld).trans upd_same, by omega, c0, by omega⟩
theorem scPick : FnScope ["deck", "some"] ["deck", "some"] (defScope sPick) := ⟨rfl, rfl, rfl, by decide +kernel, rfl, by decide +kernel, by decide +kernel⟩
/-- a def that stands in the text, and how it is called -/
structure Call1 (P : Program) (w : World) (K : PySem.W.Frag) (mg : Str → Option Value) (base : Heap) (x : Str) (k : Nat) (ps : List Str) (sp : Sp) : Prop where
  ex : ∃ f fd, FnOk P w K mg base CX0 k f fd ps sp ∧ Binds K fd ps [] ∧ PySem.W.keepIn K (.ref f) = true ∧ mg x = some (.ref f)
theorem ok_pick (F : Fun K "_law_pick" "_law_pick" sPick f fd) (T : Blt mg) (C : Call1 P w K mg base "_law_draw" 1 ["deck", "many"] spDraw) : FnOk P w K mg base CX0 2 f fd ["deck", "some"] spPick := by
  obtain ⟨g, gd, G, bG, kG, mG⟩ := C.ex
  refine F.ok scPick (fun vs H Q E h => ?_) (fun cdv A outer s H vs Q E hr h => ?_)
  · obtain ⟨H0, dk, lf, l, B, xs, rfl, _⟩ := h
    rfl
  obtain ⟨H0, dk, lf, l, B, xs, rfl, hD, hB, hl, n1, n2, h0, h1, q⟩ := h
  refine ⟨_, pss_one (ps_ret (pe_ix ix_list (pv 1) (pe_call G hr rfl mG kG bG .nil pass0 (pa_cons (pv 0) (pa_cons (pe_callB call_len_seq (by rfl) T.len PySem.boot_len (pa_cons (pv 1) pa_nil)) pa_nil))) (fun _ _ => rfl))), ?_⟩
  refine ⟨_, rfl, _, rfl, _, rfl, l, _, rfl, .inl (SqL.of hl), H0, dk, lf, B, _, rfl, hD, hB, by omega, by omega, fun r H' r0 r1 hG hD' => ?_⟩
  have hi : r.toNat < xs.length := by omega
  have e : r = ((r.toNat : Nat) : Int) := by omega
  have z := atI_nat (List.getElem?_eq_getElem hi)
  rw [← e] at z
  exact ⟨l, xs, r, xs[r.toNat], rfl, rfl, SqL.of (hG.frame _ _ n1 n2 hl), z, q _ H' (List.getElem_mem hi) hG hD'⟩
end
end Zk

set_option maxHeartbeats 4000000
/-! D2: any drawn value. -/
namespace Zk
open PySem PySem.Spec PyProof.Rows L2
def anyCost : Nat → Nat
  | 0 => 2
  | n + 1 => 3 * anyCost n + 3
def anyLen : Nat → Nat
  | 0 => 10000
  | n + 1 => 3 * (anyLen n + 2) + 10000
def AnyFine (n : Nat) (d : PyData) : Prop := Fine (2 * n + 2) (anyLen n) d
/-- _law_any(deck, deep), deep at most n -/
def spAny (n : Nat) : Sp := fun vs H Q _ => ∃ (H0 : Hp) (dk lf : Addr) (B m : Nat), vs = [.ref dk, .int (m : Int)] ∧ m ≤ n ∧ DeckAt H0 H dk lf B ∧ B + anyCost n < 2 ^ 59 ∧
  ∀ v d H0' H', Grow dk lf H0 H H0' H' → DeckAt H0' H' dk lf (B + anyCost n) → Sd H0' v d → AnyFine n d → Q v H'
theorem anyCost_pos (n : Nat) : 2 ≤ anyCost n := by
  cases n with
  | zero => exact Nat.le_refl 2
  | succ n => unfold anyCost; omega
theorem anyLen_pos (n : Nat) : 10000 ≤ anyLen n := by
  cases n with
  | zero => exact Nat.le_refl _
  | succ n => unfold anyLen; omega
theorem anyFine_mono {n m : Nat} (h : m ≤ n) {d : PyData} (f : AnyFine m d) : AnyFine n d := by
  have : anyLen m ≤ anyLen n := by
    induction h with
    | refl => exact Nat.le_refl _
    | step h ih =>
      have : ∀ k, anyLen k ≤ anyLen (k + 1) := fun k => by show _ ≤ 3 * (anyLen k + 2) + 10000; omega
      exact Nat.le_trans ih (this _)
  exact f.mono (by omega) this
def menu1 : List V := [.int 0, .int 1, .int (-1), .int 7, .int (10 ^ 29), .int (-(10 ^ 20)), .int 2, .int 5]
def menu2 : List V := [.str "", .str "a", .str "set", .str "input", .str "x\ny", .str "~"]
def menu3 : List V := [.bl true, .bl false, .non]
theorem menu1_fine {v : V} (h : v ∈ menu1) (n : Nat) : ∃ d, (∀ H, Sd H v d) ∧ AnyFine n d := by
  have p := anyLen_pos n
  have key : ∀ i : Int, i.natAbs.log2 < 1920 → ∃ d, (∀ H, Sd H (.int i) d) ∧ AnyFine n d := fun i hi => ⟨.int i, fun _ => .int i, (fine_int hi).mono (by omega) (by omega)⟩
  simp only [menu1, List.mem_cons, List.not_mem_nil, or_false] at h
  rcases h with rfl | rfl | rfl | rfl | rfl | rfl | rfl | rfl <;> exact key _ (by decide +kernel)
theorem menu2_fine {v : V} (h : v ∈ menu2) (n : Nat) : ∃ d, (∀ H, Sd H v d) ∧ AnyFine n d := by
  have p := anyLen_pos n
  have key : ∀ x : Str, (x.cps.toList.all fun c => decide (c < 16 ^ 8)) = true → x.length ≤ 9 → ∃ d, (∀ H, Sd H (.str x) d) ∧ AnyFine n d := fun x hx hl =>
    ⟨.str x, fun _ => .str x, (fine_str fun c hc => of_decide_eq_true (List.all_eq_true.mp hx c hc)).mono (by omega) (by omega)⟩
  simp only [menu2, List.mem_cons, List.not_mem_nil, or_false] at h
  rcases h with rfl | rfl | rfl | rfl | rfl | rfl <;> exact key _ (by decide +kernel) (by decide +kernel)
theorem menu3_fine {v : V} (h : v ∈ menu3) (n : Nat) : ∃ d, (∀ H, Sd H v d) ∧ AnyFine n d := by
  have p := anyLen_pos n
  simp only [menu3, List.mem_cons, List.not_mem_nil, or_false] at h
  rcases h with rfl | rfl | rfl
  · exact ⟨.bool true, fun _ => .bl true, (fine_bool true).mono (by omega) (by omega)⟩
  · exact ⟨.bool false, fun _ => .bl false, (fine_bool false).mono (by omega) (by omega)⟩
  · exact ⟨.none, fun _ => .non, fine_none.mono (by omega) (by omega)⟩
/-- a statement, and then what all its ways come to -/
theorem seq_to {t1 ts : TS} {D : Ends} {σ : List (Option V)} {H : Hp} (I : List (Option V) → Hp → Prop) (hI : ∀ σ H, I σ H → ts D σ H) (h : (∀ σ H, I σ H → ts D σ H) → t1 { D with nx := ts D } σ H) : tSeq t1 ts D σ H := h hI
section
variable {P : Program} {w : World} {K : PySem.W.Frag} {mg : Str → Option Value} {base : Heap} {f : Addr} {fd : FuncData}
theorem scAny : FnScope ["deck", "deep", "way", "some", "turn"] ["deck", "deep"] (defScope sAny) := ⟨rfl, rfl, rfl, by decide +kernel, rfl, by decide +kernel, by decide +kernel⟩
/-- one more turn of the recursion: n is 0, or the def keeps its promise for one less -/
theorem ok_any {n : Nat} (F : Fun K "_law_any" "_law_any" sAny f fd) (T : Blt mg) (bF : Binds K fd ["deck", "deep"] []) (mF : mg "_law_any" = some (.ref f)) (C1 : Call1 P w K mg base "_law_draw" 1 ["deck", "many"] spDraw) (C2 : Call1 P w K mg base "_law_pick" 2 ["deck", "some"] spPick)
    (R : FnOk P w K mg base CX0 (n + 3) f fd ["deck", "deep"] (fun vs H Q E => 0 < n ∧ spAny (n - 1) vs H Q E)) : FnOk P w K mg base CX0 (n + 3 + 1) f fd ["deck", "deep"] (spAny n) := by
  obtain ⟨f1, d1, G1, b1, k1, m1⟩ := C1.ex
  obtain ⟨f2, d2, G2, b2, k2, m2⟩ := C2.ex
  refine F.ok scAny (fun vs H Q E h => ?_) (fun cdv A outer s H vs Q E hr h => ?_)
  · obtain ⟨H0, dk, lf, B, m, rfl, _⟩ := h
    rfl
  obtain ⟨H0, dk, lf, B, m, rfl, hm, hD, hB, q⟩ := h
  have hr1 : Room 1 _ := hr.mono (by omega)
  have hr2 : Room 2 _ := hr.mono (by omega)
  refine ⟨_, pss_cons (ps_set (i := 2) scAny.nd rfl (Or.inl rfl) (pe_call G1 hr1 rfl m1 k1 b1 .nil pass0 (pa_cons (pv 0) (pa_cons pe_int pa_nil))))
    (pss_cons (ps_if (pt_cmpR op_lt (pv 2) pe_int (nomark _)) (pss_one (ps_ret (pe_call G2 hr2 rfl m2 k2 b2 .nil pass0 (pa_cons (pv 0) (pa_cons (pe_lst (pa_cons pe_int (pa_cons pe_int (pa_cons (pe_un un_neg pe_int) (pa_cons pe_int
      (pa_cons (pe_op op_pow pe_int pe_int) (pa_cons (pe_un un_neg (pe_op op_pow pe_int pe_int)) (pa_cons pe_int (pa_cons pe_int pa_nil))))))))) pa_nil))))) pss_nil)
    (pss_cons (ps_if (pt_cmpR op_lt (pv 2) pe_int (nomark _)) (pss_one (ps_ret (pe_call G2 hr2 rfl m2 k2 b2 .nil pass0 (pa_cons (pv 0) (pa_cons (pe_lst (pa_cons pe_str (pa_cons pe_str (pa_cons pe_str (pa_cons pe_str
      (pa_cons pe_str (pa_cons pe_str pa_nil))))))) pa_nil))))) pss_nil)
    (pss_cons (ps_if (pt_cmpR op_eq (pv 2) pe_int (nomark _)) (pss_one (ps_ret (pe_call G2 hr2 rfl m2 k2 b2 .nil pass0 (pa_cons (pv 0) (pa_cons (pe_lst (pa_cons pe_bl (pa_cons pe_bl (pa_cons pe_non pa_nil)))) pa_nil))))) pss_nil)
    (pss_cons (ps_set (i := 3) scAny.nd rfl (Or.inl rfl) (pe_ifExp (pt_cmpR op_gt (pv 1) pe_int (nomark _))
        (pe_lc (own := [("turn", 4)]) (g := gName 4) (tt := tYes) rfl scAny.nd (pi_range1 (by rfl) T.range (pa_cons (pe_call G1 hr1 rfl m1 k1 b1 .nil pass0 (pa_cons (pv 0) (pa_cons pe_int pa_nil))) pa_nil))
          (blkOk_by (N := ["deck", "deep", "way", "some", "turn"]) (sc := defScope sAny) (by decide +kernel)) (fun _ _ _ _ _ => pg_name (i := 4) scAny.nd rfl (Or.inl rfl)) (fun _ _ _ _ _ => pts_nil)
          (fun _ _ _ _ _ => pe_call R hr rfl mF F.kp bF .nil pass0 (pa_cons (pv 0) (pa_cons (pe_op op_sub (pv 1) pe_int) pa_nil))))
        (pe_lst pa_nil)))
    (pss_cons (ps_if (pt_cmpR op_eq (pv 2) pe_int (nomark _)) (pss_one (ps_ret (pv 3))) pss_nil)
    (pss_one (ps_ret (pe_ifExp (pt_cmpR op_eq (pv 2) pe_int (nomark _))
      (pe_disp (pps_cons pe_str (pv 3) (pps_cons pe_int (pe_callB call_len_seq (by rfl) T.len PySem.boot_len (pa_cons (pv 3) pa_nil)) pps_nil)) rfl rfl (by intro z; cases z) (by decide))
      (pe_callTy call_tuple_of (by rfl) T.tuple (by decide +kernel) (pa_cons (pv 3) pa_nil)))))))))), ?_⟩
  have c2 := anyCost_pos n
  refine ⟨_, rfl, H0, dk, lf, B, 10, rfl, hD, by omega, by decide, by decide, fun way Hw w0 w1 gw hDw => ?_⟩
  have nd : dk ≠ lf := by
    obtain ⟨_, _, _, e1, e2, _⟩ := hD.ex
    exact ne_of e1 e2 fun z => nomatch z
  have pick : ∀ (l : Addr) (hl : Hw l = none) (xs : List V) (v : V) (H' : Hp), Grow dk lf H0 (upd Hw l (.lst xs)) H0 H' → DeckAt H0 H' dk lf (B + 1 + 1) → (∃ d, (∀ H, Sd H v d) ∧ AnyFine n d) → Q v H' := by
    rintro l hl xs v H' g D' ⟨d, sd, fd⟩
    exact q v d H0 H' (gw.trans hD hDw ((Grow.drop hl).trans hDw (hDw.drop hl) g)) (D'.mono (by omega)) (sd _) fd
  refine ⟨_, rfl, _, _, rfl, rfl, _, rfl, ?_⟩
  refine ite2 (fun _ => ?_) (fun _ => ?_)
  · refine ⟨_, rfl, _, rfl, 10, 29, rfl, rfl, ⟨by decide, by decide, by decide⟩, 10, 20, rfl, rfl, ⟨by decide, by decide, by decide⟩, _, rfl, (by show 8 ≤ sizeLine; decide), fun l hl => ?_⟩
    exact ⟨H0, dk, lf, l, B + 1, menu1, rfl, hDw.drop hl, by omega, upd_same, (hDw.ned hl).symm, (hDw.nel hl).symm, by decide, by decide, fun v H' hv g D' => pick l hl _ v H' g D' (menu1_fine hv n)⟩
  refine ⟨_, rfl, _, _, rfl, rfl, _, rfl, ?_⟩
  refine ite2 (fun _ => ?_) (fun _ => ?_)
  · refine ⟨_, rfl, (by show 6 ≤ sizeLine; decide), fun l hl => ?_⟩
    exact ⟨H0, dk, lf, l, B + 1, menu2, rfl, hDw.drop hl, by omega, upd_same, (hDw.ned hl).symm, (hDw.nel hl).symm, by decide, by decide, fun v H' hv g D' => pick l hl _ v H' g D' (menu2_fine hv n)⟩
  refine ⟨_, rfl, rfl, _, rfl, ?_⟩
  refine ite2 (fun _ => ?_) (fun _ => ?_)
  · refine ⟨_, rfl, (by show 3 ≤ sizeLine; decide), fun l hl => ?_⟩
    exact ⟨H0, dk, lf, l, B + 1, menu3, rfl, hDw.drop hl, by omega, upd_same, (hDw.ned hl).symm, (hDw.nel hl).symm, by decide, by decide, fun v H' hv g D' => pick l hl _ v H' g D' (menu3_fine hv n)⟩
  clear pick
  unfold tNext
  dsimp only
  refine (seq_to (fun σ' H' => ∃ (l : Addr) (H0' : Hp) (xs : List V) (ds : List PyData) (b : Nat), σ' = [some (.ref dk), some (.int (m : Int)), some (.int way), some (.ref l), none] ∧ Grow dk lf H0 H H0' H' ∧ DeckAt H0' H' dk lf (B + anyCost n) ∧
    H' l = some (.lst xs) ∧ H0' l = some (.lst xs) ∧ SdL H0' xs ds ∧ (∀ d ∈ ds, Fine (2 * n) b d) ∧ ds.length ≤ 3 ∧ ds.length * (b + 2) + 9000 ≤ anyLen n) ?_ ?_ : tSeq _ _ _ _ _)
  · rintro σ' H' ⟨l, H0', xs, ds, b, rfl, g, D', e1, e0, hs, hf, h3, hlen⟩
    have fl := fine_list hf
    have len := hs.len
    refine ⟨_, rfl, rfl, _, rfl, ?_⟩
    refine ite2 (fun _ => ?_) (fun _ => ?_)
    · exact ⟨_, rfl, q _ (.list ds) H0' H' g D' (.lst e0 hs) (fl.mono (by omega) (by omega))⟩
    refine ⟨_, rfl, rfl, _, rfl, ?_⟩
    refine ite2 (fun _ => ?_) (fun _ => ?_)
    · intro p hp
      have npl : l ≠ p := ne_of_none e1 hp
      refine ⟨_, rfl, _, rfl, l, xs, rfl, .inl (SqL.of ((upd_ne npl).trans e1)), upd_same, [(.inr ("key" : Str), .ref l), (.inl 1, .int (xs.length : Nat))], rfl, (by show 2 ≤ 15; decide), ?_⟩
      rw [show mergeK [] [((Sum.inr ("key" : Str) : Key), V.ref l), (.inl 1, .int (xs.length : Nat))] = [((Sum.inr ("key" : Str) : Key), V.ref l), (.inl 1, .int (xs.length : Nat))] from rfl, upd_upd]
      refine q _ (.dict [(.str "key", .list ds), (.int 1, .int (xs.length : Nat))]) _ _ (g.trans hD D' (Grow.new D' hp)) (D'.new hp) ?_ ?_
      · refine .dic upd_same (.cons (k := .inr ("key" : Str)) (.lst ((upd_ne npl).trans e0) (SdL.same (same_new (D'.free hp) _) hs)) (.cons (k := .inl 1) (.int _) .nil))
      · refine (fine_dict2 (k := ("key" : Str)) (by decide +kernel) (by decide) ?_ fl).mono (by omega) ?_
        · have : ((xs.length : Nat) : Int).natAbs ≤ 3 := by omega
          have h4 : ((xs.length : Nat) : Int).natAbs.log2 ≤ 2 := by
            match h : ((xs.length : Nat) : Int).natAbs, this with
            | 0, _ => decide
            | 1, _ => decide
            | 2, _ => decide
            | 3, _ => decide
          omega
        · have : ("key" : Str).length = 3 := rfl
          omega
    · refine ⟨_, rfl, l, xs, rfl, .inl ⟨SqL.of e1, fun p hp => ?_⟩⟩
      exact q _ (.tuple ds) _ _ (g.trans hD D' (Grow.new D' hp)) (D'.new hp) (.tup upd_same (SdL.same (same_new (D'.free hp) _) hs)) ((fine_tup hf).mono (by omega) (by omega))
  intro fin
  refine ⟨_, rfl, _, _, rfl, rfl, _, rfl, ?_⟩
  refine ite2 (fun c => ?_) (fun c => ?_)
  · have m0 : 0 < m := by
      have := of_decide_eq_true c
      omega
    obtain ⟨n', rfl⟩ : ∃ n', n = n' + 1 := ⟨n - 1, by omega⟩
    refine ⟨_, rfl, H0, dk, lf, B + 1, 4, rfl, hDw, by omega, by decide, by decide, fun r H1 r0 r1 g1 D1 => ⟨r, rfl, by omega, by omega, fun D hDn => ?_⟩⟩
    have cost : anyCost (n' + 1) = 3 * anyCost n' + 3 := rfl
    have g1' := gw.trans hD hDw g1
    have Hn : H D = none := by
      cases e : H D with
      | none => rfl
      | some o =>
        by_cases z1 : D = dk
        · exact absurd z1.symm (D1.ned hDn)
        · by_cases z2 : D = lf
          · exact absurd z2.symm (D1.nel hDn)
          · rw [g1'.frame _ _ z1 z2 e] at hDn
            cases hDn
    refine lc_range (lo := 0) (n := r.toNat) (fun i H' => ∃ (H0' : Hp) (xs : List V) (ds : List PyData), Grow dk lf H0 H H0' H' ∧ DeckAt H0' H' dk lf (B + 2 + i * anyCost n') ∧ H' D = some (.lst xs) ∧ H0' D = none ∧ SdL H0' xs ds ∧ xs.length = i ∧ ∀ d ∈ ds, AnyFine n' d)
      ⟨H0, [], [], g1'.upd' Hn, (D1.drop hDn).mono (by omega), upd_same, D1.free hDn, .nil, rfl, fun d hd => absurd hd List.not_mem_nil⟩ ?_ ?_
    · rintro i H' hi ⟨H0', xs, ds, g, D', eD, e0, hs, hl, hf⟩
      refine ⟨rfl, ?_⟩
      dsimp only [tYes]
      refine iteT ?_
      have hi3 : i ≤ 3 := by omega
      have hic : i * anyCost n' ≤ 2 * anyCost n' := Nat.mul_le_mul_right _ (by omega)
      refine ⟨_, rfl, _, rfl, _, _, rfl, rfl, Nat.succ_pos _, H0', dk, lf, B + 2 + i * anyCost n', m - 1, ?_, by omega, D', by show _ + anyCost n' < _; omega, fun v d H0'' H'' gr D'' sd fd => ?_⟩
      · show [V.ref dk, V.int ((m : Int) - 1)] = _
        rw [show (m : Int) - 1 = ((m - 1 : Nat) : Int) by omega]
      have ndD := D1.ned hDn
      have nlD := D1.nel hDn
      have f0 : H0'' D = none := (gr.fresh D _ eD).trans e0
      refine ⟨xs, gr.frame D _ ndD.symm nlD.symm eD, sl_lt (by omega), H0'', xs ++ [v], ds ++ [d], (g.trans hD D' gr).upd' Hn, (D''.change f0 ndD nlD).mono ?_, upd_same, f0, (SdL.same gr.same hs).app (.cons sd .nil), by rw [List.length_append, hl]; rfl, fun e he => ?_⟩
      · rw [Nat.succ_mul]
        show _ + anyCost n' ≤ _
        omega
      · rcases List.mem_append.mp he with he | he
        · exact hf e he
        · rw [List.mem_singleton.mp he]
          exact fd
    · rintro H' ⟨H0', xs, ds, g, D', eD, e0, hs, hl, hf⟩
      have hr3 : r.toNat ≤ 3 := by omega
      have hrc : r.toNat * anyCost n' ≤ 3 * anyCost n' := Nat.mul_le_mul_right _ hr3
      have len := hs.len
      refine fin _ _ ⟨D, upd H0' D (.lst xs), xs, ds, anyLen n', rfl, g.keep Hn e0, (D'.keep eD (D1.ned hDn) (D1.nel hDn)).mono (by omega), eD, upd_same, SdL.same (same_new e0 _) hs, fun d hd => (hf d hd).mono (by omega) (Nat.le_refl _), by omega, ?_⟩
      have : ds.length * (anyLen n' + 2) ≤ 3 * (anyLen n' + 2) := Nat.mul_le_mul_right _ (by omega)
      show _ ≤ 3 * (anyLen n' + 2) + 10000
      omega
  · refine ⟨Nat.zero_le _, fun p hp => ?_⟩
    have pos := anyLen_pos n
    have Hn : H p = none := by
      cases e : H p with
      | none => rfl
      | some o =>
        by_cases z1 : p = dk
        · exact absurd z1.symm (hDw.ned hp)
        · by_cases z2 : p = lf
          · exact absurd z2.symm (hDw.nel hp)
          · rw [gw.frame _ _ z1 z2 e] at hp
            cases hp
    exact fin _ _ ⟨p, upd H0 p (.lst []), [], [], 0, rfl, gw.trans hD hDw (Grow.new hDw hp), (hDw.new hp).mono (by omega), upd_same, upd_same, .nil, fun d hd => absurd hd List.not_mem_nil, Nat.zero_le _, by show 0 * (0 + 2) + 9000 ≤ _; omega⟩
end
end Zk

set_option maxHeartbeats 4000000
/-! E5: a family of own errors over one own base class: what is an instance of what; their __init__ from the text. -/
namespace Zk
open PySem PySem.Spec PyProof.Rows L2
open PySem.W (findIn subIn typeIn keepIn excTail kitOne kitAny exmOne clsIn)

/-- the error class called x, at C, straight over the own class at B -/
structure ErrC (K : PySem.W.Frag) (mg : Str → Option Value) (B : Addr) (x : Str) (C : Addr) : Prop where
  own : OwnE K C
  gC : mg x = some (.ref C)
  cd : ∃ cd, clsIn K C = some cd ∧ cd.name = x ∧ cd.mro = [.ref C, .ref B, .type "Exception", .type "BaseException", .type "object"]
/-- the base class -/
structure BaseC (K : PySem.W.Frag) (mg : Str → Option Value) (x : Str) (B : Addr) : Prop where
  gB : mg x = some (.ref B)
  cd : ∃ cd, clsIn K B = some cd ∧ cd.name = x
  ty : typeIn K (.ref B) = some (.type "type")
  ex : subIn K (.ref B) (.type "BaseException") = some true
  sp : PySem.W.specialIn K (.ref B) "__getattribute__" = some (some (.builtin "type.__getattribute__"))
  rd : PySem.W.readsIn K B (.type "type") = true
  fc : PySem.W.findCls K (.ref B) (.type "type") "__init__" = some (.val (.builtin "Exception.__init__"))
section
variable {K : PySem.W.Frag} {mg : Str → Option Value} {B C D : Addr} {x y z : Str}
theorem ErrC.ne (a : ErrC K mg B x C) (b : ErrC K mg B y D) (h : ¬ x = y) : C ≠ D := by
  intro e
  subst e
  obtain ⟨cd, h1, h2, _⟩ := a.cd
  obtain ⟨ce, h3, h4, _⟩ := b.cd
  rw [h1] at h3
  cases h3
  exact h (h2.symm.trans h4)
theorem ErrC.neB (a : ErrC K mg B x C) (b : BaseC K mg y B) (h : ¬ x = y) : C ≠ B := by
  intro e
  subst e
  obtain ⟨cd, h1, h2, _⟩ := a.cd
  obtain ⟨ce, h3, h4⟩ := b.cd
  rw [h1] at h3
  cases h3
  exact h (h2.symm.trans h4)
theorem ErrC.sub (a : ErrC K mg B x C) (v : Value) : subIn K (.ref C) v = some (([.ref C, .ref B, .type "Exception", .type "BaseException", .type "object"] : List Value).contains v) := by
  obtain ⟨cd, h1, _, h3⟩ := a.cd
  show PySem.W.mroIn K C v = _
  unfold PySem.W.mroIn
  rw [h1, Option.bind_some, h3, if_neg (show ¬ (List.isEmpty (Value.ref C :: _) = true) from Bool.false_ne_true)]
theorem ErrC.isCls (a : ErrC K mg B x C) : ((clsIn K C).isSome && typeIn K (.ref C) == some (.type "type")) = true := by
  rw [a.own.isCls, a.own.tyC]
  rfl
theorem BaseC.isCls (b : BaseC K mg x B) : ((clsIn K B).isSome && typeIn K (.ref B) == some (.type "type")) = true := by
  obtain ⟨cd, h, _⟩ := b.cd
  rw [h, b.ty]
  rfl
theorem kit_self (t : Value) : kitOne K t t = some true := by
  unfold kitOne
  rw [if_pos (beq_self_eq_true t)]
theorem kit_else (a : ErrC K mg B x C) (b : ErrC K mg B y D) (o : BaseC K mg z B) (h : ¬ x = y) (hz : ¬ y = z) : kitOne K (.ref C) (.ref D) = some false := by
  have n1 : C ≠ D := a.ne b h
  have n2 : D ≠ B := b.neB o hz
  unfold kitOne
  rw [if_neg (by simpa using n1)]
  unfold PySem.W.kitCls
  simp only [b.isCls, if_true]
  rw [a.sub]
  simp [n1.symm, n2]
theorem kit_base (a : ErrC K mg B x C) (o : BaseC K mg z B) (hz : ¬ x = z) : kitOne K (.ref C) (.ref B) = some true := by
  unfold kitOne
  rw [if_neg (by simpa using a.neB o hz)]
  unfold PySem.W.kitCls
  simp only [o.isCls, if_true]
  rw [a.sub]
  simp
theorem kit_type (a : ErrC K mg B x C) {T : String} {r : Bool} (hT : PySem.W.kitMeta T = true) (hr : ([Value.type "Exception", .type "BaseException", .type "object"].contains (.type T)) = r) : kitOne K (.ref C) (.type T) = some r := by
  unfold kitOne
  rw [if_neg (by simp)]
  unfold PySem.W.kitCls
  simp only [hT, if_true]
  rw [a.sub, List.contains_cons, List.contains_cons, hr, show (Value.type T == Value.ref C) = false from beq_eq_false_iff_ne.mpr (fun z => nomatch z), show (Value.type T == Value.ref B) = false from beq_eq_false_iff_ne.mpr (fun z => nomatch z)]
  rfl
theorem exm_self (a : ErrC K mg B x C) : exmOne K (.ref C) (.ref C) = some true := by
  have h := a.own.exC
  unfold exmOne PySem.W.kitCls
  simp only [h, a.isCls, if_true, beq_self_eq_true]
  rw [a.sub]
  simp
theorem exm_else (a : ErrC K mg B x C) (b : ErrC K mg B y D) (o : BaseC K mg z B) (h : ¬ x = y) (hz : ¬ y = z) : exmOne K (.ref C) (.ref D) = some false := by
  have n1 : C ≠ D := a.ne b h
  have n2 : D ≠ B := b.neB o hz
  have e := b.own.exC
  unfold exmOne PySem.W.kitCls
  simp only [e, b.isCls, if_true, beq_self_eq_true]
  rw [a.sub]
  simp [n1.symm, n2]
theorem exm_base (a : ErrC K mg B x C) (o : BaseC K mg z B) : exmOne K (.ref C) (.ref B) = some true := by
  unfold exmOne PySem.W.kitCls
  simp only [o.ex, o.isCls, if_true, beq_self_eq_true]
  rw [a.sub]
  simp
end

/-- __init__(self, f): the base's __init__ with a text, then self.f = f -/
def spInit (C : Addr) (f : Str) : Sp := fun vs H Q _ => ∃ (a : Addr) (v : V), vs = [.ref a, v] ∧ H a = some (exo a C none) ∧ ∀ dx, H dx = none → dx ≠ a → Q .non (upd (upd H dx (exd dx [(f, v)])) a (exo a C (some dx)))
def spInit0 (C : Addr) : Sp := fun vs H Q _ => ∃ a : Addr, vs = [.ref a] ∧ H a = some (exo a C none) ∧ Q .non H
section
variable {P : Program} {w : World} {K : PySem.W.Frag} {mg : Str → Option Value} {base : Heap} {fI C B : Addr} {fd : FuncData} {st : Stmt} {qual f t : Str} {j : Nat} {p1 p2 p3 p4 p5 p6 p7 p8 p9 p10 : Pos}
theorem ok_init {pl : Env → Sem Bool} (F : Fun K "__init__" qual st fI fd) (S : FnScope ["self", f] ["self", f] (defScope st)) (hv : Vis (defScope st) "self") (hf : Vis (defScope st) f) (hg : (defScope st).names.lookup ("PlayError" : Str) = some .globalImplicit)
    (body : defBody st = [.Expr (.Call (.Attribute (.Name "PlayError" p1) "__init__" p2) [.Name "self" p3, .Constant (.str t) j p4] [] p5) p6, .Assign [.Attribute (.Name "self" p7) f p8] (.Name f p9) p10])
    (hc : ∀ env : Env, eval (.Call (.Attribute (.Name "PlayError" p1) "__init__" p2) [.Name "self" p3, .Constant (.str t) j p4] [] p5) env = (do
      let ov ← eval (.Name "PlayError" p1) env
      standAt p2.atName
      let (f, first) ← holding [ov] (getMethod ov "__init__" (pl env))
      callWith p5 f first (backTo p5 (starEach [.Name "self" p3, .Constant (.str t) j p4] env)) (backToKw p5 (keywordEach [] env))))
    (T : OwnE K C) (hno : findIn K (.ref C) f = some none) (O : BaseC K mg "PlayError" B) (n1 : (f == ("__debug__" : Str)) = false) (n2 : (f == ("__classdict__" : Str)) = false) : FnOk P w K mg base CX0 1 fI fd ["self", f] (spInit C f) := by
  refine F.ok S (fun vs H Q E h => ?_) (fun cdv A outer s H vs Q E hr h => ?_)
  · obtain ⟨a, v, rfl, _⟩ := h
    rfl
  obtain ⟨a, v, rfl, ha, q⟩ := h
  rw [body]
  refine ⟨_, pss_cons (ps_expr (pe_base hg O.gB O.sp O.rd O.fc (pa_cons (pv 0 rfl hv) (pa_cons pe_str pa_nil)) (hc _))) (pss_one (ps_first (pv 0 rfl hv) (pv 1 rfl hf n1 n2))), ?_⟩
  refine ⟨_, rfl, a, C, _, rfl, (by show 1 ≤ 1000; decide), T, ha, _, rfl, _, rfl, a, C, rfl, T, hno, ha, q⟩
theorem ok_init0 {pl : Env → Sem Bool} (F : Fun K "__init__" qual st fI fd) (S : FnScope ["self"] ["self"] (defScope st)) (hv : Vis (defScope st) "self") (hg : (defScope st).names.lookup ("PlayError" : Str) = some .globalImplicit)
    (body : defBody st = [.Expr (.Call (.Attribute (.Name "PlayError" p1) "__init__" p2) [.Name "self" p3] [] p5) p6])
    (hc : ∀ env : Env, eval (.Call (.Attribute (.Name "PlayError" p1) "__init__" p2) [.Name "self" p3] [] p5) env = (do
      let ov ← eval (.Name "PlayError" p1) env
      standAt p2.atName
      let (f, first) ← holding [ov] (getMethod ov "__init__" (pl env))
      callWith p5 f first (backTo p5 (starEach [.Name "self" p3] env)) (backToKw p5 (keywordEach [] env)))) (T : OwnE K C) (O : BaseC K mg "PlayError" B) : FnOk P w K mg base CX0 1 fI fd ["self"] (spInit0 C) := by
  refine F.ok S (fun vs H Q E h => ?_) (fun cdv A outer s H vs Q E hr h => ?_)
  · obtain ⟨a, rfl, _⟩ := h
    rfl
  obtain ⟨a, rfl, ha, q⟩ := h
  rw [body]
  refine ⟨_, pss_one (ps_expr (pe_base hg O.gB O.sp O.rd O.fc (pa_cons (pv 0 rfl hv) pa_nil) (hc _))), ?_⟩
  exact ⟨_, rfl, a, C, _, rfl, by decide, T, ha, q⟩
end
end Zk

set_option maxHeartbeats 4000000
/-! E6: the seventeen classes. -/
namespace Zk
open PySem PySem.Spec PyProof.Rows L2
open PySem.W (findIn subIn typeIn keepIn excTail kitOne kitAny exmOne clsIn)
def nmE : Nat → Str
  | 0 => "BadPoly"
  | 1 => "BadWord"
  | 2 => "BadScript"
  | 3 => "BadProgram"
  | 4 => "BadCode"
  | 5 => "BadMachine"
  | 6 => "BadNumber"
  | 7 => "BadText"
  | 8 => "BadPicks"
  | 9 => "BadPlayer"
  | 10 => "BadShape"
  | 11 => "BadStanding"
  | 12 => "BadFormula"
  | 13 => "BadFilling"
  | 14 => "BadTies"
  | 15 => "BadStep"
  | 16 => "NotOfOne"
  | _ => ""
def fE : Nat → Str
  | 7 => "at"
  | _ => "thing"
theorem nmE_inj : ∀ i < 17, ∀ j < 17, nmE i = nmE j → i = j := by decide +kernel
theorem nmE_base : ∀ i < 17, ¬ nmE i = "PlayError" := by decide +kernel
/-- an error class with one field -/
structure ErrM (P : Program) (w : World) (K : PySem.W.Frag) (mg : Str → Option Value) (base : Heap) (B : Addr) (x f : Str) (C : Addr) : Prop where
  err : ErrC K mg B x C
  no : findIn K (.ref C) f = some none
  ini : ∃ fI fd, findIn K (.ref C) "__init__" = some (some (.ref fI)) ∧ typeIn K (.ref fI) = some (.type "function") ∧ FnOk P w K mg base CX0 1 fI fd ["self", f] (spInit C f) ∧ KwOk K fd ["self", f] [] 1 0 ∧ KwOk K fd ["self", f] [f] 0 1
structure ErrM0 (P : Program) (w : World) (K : PySem.W.Frag) (mg : Str → Option Value) (base : Heap) (B : Addr) (x : Str) (C : Addr) : Prop where
  err : ErrC K mg B x C
  ini : ∃ fI fd, findIn K (.ref C) "__init__" = some (some (.ref fI)) ∧ typeIn K (.ref fI) = some (.type "function") ∧ FnOk P w K mg base CX0 1 fI fd ["self"] (spInit0 C) ∧ KwOk K fd ["self"] [] 0 0
/-- all of them -/
structure Errs (P : Program) (w : World) (K : PySem.W.Frag) (mg : Str → Option Value) (base : Heap) (B : Addr) (Cs : Nat → Addr) : Prop where
  bs : BaseC K mg "PlayError" B
  one : ∀ i < 16, ErrM P w K mg base B (nmE i) (fE i) (Cs i)
  last : ErrM0 P w K mg base B "NotOfOne" (Cs 16)
  gk : ClsG K
section
variable {P : Program} {w : World} {K : PySem.W.Frag} {mg : Str → Option Value} {base : Heap} {B : Addr} {Cs : Nat → Addr}
theorem Errs.err (G : Errs P w K mg base B Cs) {i : Nat} (h : i < 17) : ErrC K mg B (nmE i) (Cs i) := by
  by_cases e : i = 16
  · subst e
    exact G.last.err
  · exact (G.one i (by omega)).err
theorem Errs.kit (G : Errs P w K mg base B Cs) {i j : Nat} (h : i < 17) (k : j < 17) : kitOne K (.ref (Cs i)) (.ref (Cs j)) = some (decide (i = j)) := by
  by_cases e : i = j
  · subst e
    rw [decide_eq_true rfl]
    exact kit_self _
  · rw [decide_eq_false e]
    exact kit_else (G.err h) (G.err k) G.bs (fun z => e (nmE_inj i h j k z)) (nmE_base j k)
theorem Errs.exm (G : Errs P w K mg base B Cs) {i j : Nat} (h : i < 17) (k : j < 17) : exmOne K (.ref (Cs i)) (.ref (Cs j)) = some (decide (i = j)) := by
  by_cases e : i = j
  · subst e
    rw [decide_eq_true rfl]
    exact exm_self (G.err h)
  · rw [decide_eq_false e]
    exact exm_else (G.err h) (G.err k) G.bs (fun z => e (nmE_inj i h j k z)) (nmE_base j k)
theorem Errs.kitB (G : Errs P w K mg base B Cs) {i : Nat} (h : i < 17) : kitOne K (.ref (Cs i)) (.ref B) = some true := kit_base (G.err h) G.bs (nmE_base i h)
theorem Errs.exmB (G : Errs P w K mg base B Cs) {i : Nat} (h : i < 17) : exmOne K (.ref (Cs i)) (.ref B) = some true := exm_base (G.err h) G.bs
end
/-! ### their __init__ -/
section
variable {P : Program} {w : World} {K : PySem.W.Frag} {mg : Str → Option Value} {base : Heap} {fI C B : Addr} {fd : FuncData}
theorem ini_0 (F : Fun K "__init__" "BadPoly.__init__" (inClass (top 2) 0) fI fd) (E : ErrC K mg B (nmE 0) C) (iC : findIn K (.ref C) "__init__" = some (some (.ref fI))) (tI : typeIn K (.ref fI) = some (.type "function")) (no : findIn K (.ref C) (fE 0) = some none) (O : BaseC K mg "PlayError" B) :
    ErrM P w K mg base B (nmE 0) (fE 0) C := by
  refine ⟨E, no, fI, fd, iC, tI, ok_init F ⟨rfl, rfl, rfl, by decide +kernel, rfl, by decide +kernel, by decide +kernel⟩ (Or.inl rfl) (Or.inl rfl) rfl rfl (fun _ => rfl) E.own no O rfl rfl, ?_, ?_⟩
  · obtain ⟨_, _, _, _, _, _, _, _, _, rfl, _⟩ := F.ex
    intro s a us ws _ h1 h2
    match us, ws, h1, h2 with
    | [_], [], _, _ => exact .of_eq rfl
  · obtain ⟨_, _, _, _, _, _, _, _, _, rfl, _⟩ := F.ex
    intro s a us ws _ h1 h2
    match us, ws, h1, h2 with
    | [], [_], _, _ => exact .of_eq rfl
theorem ini_1 (F : Fun K "__init__" "BadWord.__init__" (inClass (top 3) 0) fI fd) (E : ErrC K mg B (nmE 1) C) (iC : findIn K (.ref C) "__init__" = some (some (.ref fI))) (tI : typeIn K (.ref fI) = some (.type "function")) (no : findIn K (.ref C) (fE 1) = some none) (O : BaseC K mg "PlayError" B) :
    ErrM P w K mg base B (nmE 1) (fE 1) C := by
  refine ⟨E, no, fI, fd, iC, tI, ok_init F ⟨rfl, rfl, rfl, by decide +kernel, rfl, by decide +kernel, by decide +kernel⟩ (Or.inl rfl) (Or.inl rfl) rfl rfl (fun _ => rfl) E.own no O rfl rfl, ?_, ?_⟩
  · obtain ⟨_, _, _, _, _, _, _, _, _, rfl, _⟩ := F.ex
    intro s a us ws _ h1 h2
    match us, ws, h1, h2 with
    | [_], [], _, _ => exact .of_eq rfl
  · obtain ⟨_, _, _, _, _, _, _, _, _, rfl, _⟩ := F.ex
    intro s a us ws _ h1 h2
    match us, ws, h1, h2 with
    | [], [_], _, _ => exact .of_eq rfl
theorem ini_2 (F : Fun K "__init__" "BadScript.__init__" (inClass (top 4) 0) fI fd) (E : ErrC K mg B (nmE 2) C) (iC : findIn K (.ref C) "__init__" = some (some (.ref fI))) (tI : typeIn K (.ref fI) = some (.type "function")) (no : findIn K (.ref C) (fE 2) = some none) (O : BaseC K mg "PlayError" B) :
    ErrM P w K mg base B (nmE 2) (fE 2) C := by
  refine ⟨E, no, fI, fd, iC, tI, ok_init F ⟨rfl, rfl, rfl, by decide +kernel, rfl, by decide +kernel, by decide +kernel⟩ (Or.inl rfl) (Or.inl rfl) rfl rfl (fun _ => rfl) E.own no O rfl rfl, ?_, ?_⟩
  · obtain ⟨_, _, _, _, _, _, _, _, _, rfl, _⟩ := F.ex
    intro s a us ws _ h1 h2
    match us, ws, h1, h2 with
    | [_], [], _, _ => exact .of_eq rfl
  · obtain ⟨_, _, _, _, _, _, _, _, _, rfl, _⟩ := F.ex
    intro s a us ws _ h1 h2
    match us, ws, h1, h2 with
    | [], [_], _, _ => exact .of_eq rfl
theorem ini_3 (F : Fun K "__init__" "BadProgram.__init__" (inClass (top 5) 0) fI fd) (E : ErrC K mg B (nmE 3) C) (iC : findIn K (.ref C) "__init__" = some (some (.ref fI))) (tI : typeIn K (.ref fI) = some (.type "function")) (no : findIn K (.ref C) (fE 3) = some none) (O : BaseC K mg "PlayError" B) :
    ErrM P w K mg base B (nmE 3) (fE 3) C := by
  refine ⟨E, no, fI, fd, iC, tI, ok_init F ⟨rfl, rfl, rfl, by decide +kernel, rfl, by decide +kernel, by decide +kernel⟩ (Or.inl rfl) (Or.inl rfl) rfl rfl (fun _ => rfl) E.own no O rfl rfl, ?_, ?_⟩
  · obtain ⟨_, _, _, _, _, _, _, _, _, rfl, _⟩ := F.ex
    intro s a us ws _ h1 h2
    match us, ws, h1, h2 with
    | [_], [], _, _ => exact .of_eq rfl
  · obtain ⟨_, _, _, _, _, _, _, _, _, rfl, _⟩ := F.ex
    intro s a us ws _ h1 h2
    match us, ws, h1, h2 with
    | [], [_], _, _ => exact .of_eq rfl
theorem ini_4 (F : Fun K "__init__" "BadCode.__init__" (inClass (top 6) 0) fI fd) (E : ErrC K mg B (nmE 4) C) (iC : findIn K (.ref C) "__init__" = some (some (.ref fI))) (tI : typeIn K (.ref fI) = some (.type "function")) (no : findIn K (.ref C) (fE 4) = some none) (O : BaseC K mg "PlayError" B) :
    ErrM P w K mg base B (nmE 4) (fE 4) C := by
  refine ⟨E, no, fI, fd, iC, tI, ok_init F ⟨rfl, rfl, rfl, by decide +kernel, rfl, by decide +kernel, by decide +kernel⟩ (Or.inl rfl) (Or.inl rfl) rfl rfl (fun _ => rfl) E.own no O rfl rfl, ?_, ?_⟩
  · obtain ⟨_, _, _, _, _, _, _, _, _, rfl, _⟩ := F.ex
    intro s a us ws _ h1 h2
    match us, ws, h1, h2 with
    | [_], [], _, _ => exact .of_eq rfl
  · obtain ⟨_, _, _, _, _, _, _, _, _, rfl, _⟩ := F.ex
    intro s a us ws _ h1 h2
    match us, ws, h1, h2 with
    | [], [_], _, _ => exact .of_eq rfl
theorem ini_5 (F : Fun K "__init__" "BadMachine.__init__" (inClass (top 7) 0) fI fd) (E : ErrC K mg B (nmE 5) C) (iC : findIn K (.ref C) "__init__" = some (some (.ref fI))) (tI : typeIn K (.ref fI) = some (.type "function")) (no : findIn K (.ref C) (fE 5) = some none) (O : BaseC K mg "PlayError" B) :
    ErrM P w K mg base B (nmE 5) (fE 5) C := by
  refine ⟨E, no, fI, fd, iC, tI, ok_init F ⟨rfl, rfl, rfl, by decide +kernel, rfl, by decide +kernel, by decide +kernel⟩ (Or.inl rfl) (Or.inl rfl) rfl rfl (fun _ => rfl) E.own no O rfl rfl, ?_, ?_⟩
  · obtain ⟨_, _, _, _, _, _, _, _, _, rfl, _⟩ := F.ex
    intro s a us ws _ h1 h2
    match us, ws, h1, h2 with
    | [_], [], _, _ => exact .of_eq rfl
  · obtain ⟨_, _, _, _, _, _, _, _, _, rfl, _⟩ := F.ex
    intro s a us ws _ h1 h2
    match us, ws, h1, h2 with
    | [], [_], _, _ => exact .of_eq rfl
theorem ini_6 (F : Fun K "__init__" "BadNumber.__init__" (inClass (top 8) 0) fI fd) (E : ErrC K mg B (nmE 6) C) (iC : findIn K (.ref C) "__init__" = some (some (.ref fI))) (tI : typeIn K (.ref fI) = some (.type "function")) (no : findIn K (.ref C) (fE 6) = some none) (O : BaseC K mg "PlayError" B) :
    ErrM P w K mg base B (nmE 6) (fE 6) C := by
  refine ⟨E, no, fI, fd, iC, tI, ok_init F ⟨rfl, rfl, rfl, by decide +kernel, rfl, by decide +kernel, by decide +kernel⟩ (Or.inl rfl) (Or.inl rfl) rfl rfl (fun _ => rfl) E.own no O rfl rfl, ?_, ?_⟩
  · obtain ⟨_, _, _, _, _, _, _, _, _, rfl, _⟩ := F.ex
    intro s a us ws _ h1 h2
    match us, ws, h1, h2 with
    | [_], [], _, _ => exact .of_eq rfl
  · obtain ⟨_, _, _, _, _, _, _, _, _, rfl, _⟩ := F.ex
    intro s a us ws _ h1 h2
    match us, ws, h1, h2 with
    | [], [_], _, _ => exact .of_eq rfl
theorem ini_7 (F : Fun K "__init__" "BadText.__init__" (inClass (top 9) 0) fI fd) (E : ErrC K mg B (nmE 7) C) (iC : findIn K (.ref C) "__init__" = some (some (.ref fI))) (tI : typeIn K (.ref fI) = some (.type "function")) (no : findIn K (.ref C) (fE 7) = some none) (O : BaseC K mg "PlayError" B) :
    ErrM P w K mg base B (nmE 7) (fE 7) C := by
  refine ⟨E, no, fI, fd, iC, tI, ok_init F ⟨rfl, rfl, rfl, by decide +kernel, rfl, by decide +kernel, by decide +kernel⟩ (Or.inl rfl) (Or.inl rfl) rfl rfl (fun _ => rfl) E.own no O rfl rfl, ?_, ?_⟩
  · obtain ⟨_, _, _, _, _, _, _, _, _, rfl, _⟩ := F.ex
    intro s a us ws _ h1 h2
    match us, ws, h1, h2 with
    | [_], [], _, _ => exact .of_eq rfl
  · obtain ⟨_, _, _, _, _, _, _, _, _, rfl, _⟩ := F.ex
    intro s a us ws _ h1 h2
    match us, ws, h1, h2 with
    | [], [_], _, _ => exact .of_eq rfl
theorem ini_8 (F : Fun K "__init__" "BadPicks.__init__" (inClass (top 10) 0) fI fd) (E : ErrC K mg B (nmE 8) C) (iC : findIn K (.ref C) "__init__" = some (some (.ref fI))) (tI : typeIn K (.ref fI) = some (.type "function")) (no : findIn K (.ref C) (fE 8) = some none) (O : BaseC K mg "PlayError" B) :
    ErrM P w K mg base B (nmE 8) (fE 8) C := by
  refine ⟨E, no, fI, fd, iC, tI, ok_init F ⟨rfl, rfl, rfl, by decide +kernel, rfl, by decide +kernel, by decide +kernel⟩ (Or.inl rfl) (Or.inl rfl) rfl rfl (fun _ => rfl) E.own no O rfl rfl, ?_, ?_⟩
  · obtain ⟨_, _, _, _, _, _, _, _, _, rfl, _⟩ := F.ex
    intro s a us ws _ h1 h2
    match us, ws, h1, h2 with
    | [_], [], _, _ => exact .of_eq rfl
  · obtain ⟨_, _, _, _, _, _, _, _, _, rfl, _⟩ := F.ex
    intro s a us ws _ h1 h2
    match us, ws, h1, h2 with
    | [], [_], _, _ => exact .of_eq rfl
theorem ini_9 (F : Fun K "__init__" "BadPlayer.__init__" (inClass (top 11) 0) fI fd) (E : ErrC K mg B (nmE 9) C) (iC : findIn K (.ref C) "__init__" = some (some (.ref fI))) (tI : typeIn K (.ref fI) = some (.type "function")) (no : findIn K (.ref C) (fE 9) = some none) (O : BaseC K mg "PlayError" B) :
    ErrM P w K mg base B (nmE 9) (fE 9) C := by
  refine ⟨E, no, fI, fd, iC, tI, ok_init F ⟨rfl, rfl, rfl, by decide +kernel, rfl, by decide +kernel, by decide +kernel⟩ (Or.inl rfl) (Or.inl rfl) rfl rfl (fun _ => rfl) E.own no O rfl rfl, ?_, ?_⟩
  · obtain ⟨_, _, _, _, _, _, _, _, _, rfl, _⟩ := F.ex
    intro s a us ws _ h1 h2
    match us, ws, h1, h2 with
    | [_], [], _, _ => exact .of_eq rfl
  · obtain ⟨_, _, _, _, _, _, _, _, _, rfl, _⟩ := F.ex
    intro s a us ws _ h1 h2
    match us, ws, h1, h2 with
    | [], [_], _, _ => exact .of_eq rfl
theorem ini_10 (F : Fun K "__init__" "BadShape.__init__" (inClass (top 12) 0) fI fd) (E : ErrC K mg B (nmE 10) C) (iC : findIn K (.ref C) "__init__" = some (some (.ref fI))) (tI : typeIn K (.ref fI) = some (.type "function")) (no : findIn K (.ref C) (fE 10) = some none) (O : BaseC K mg "PlayError" B) :
    ErrM P w K mg base B (nmE 10) (fE 10) C := by
  refine ⟨E, no, fI, fd, iC, tI, ok_init F ⟨rfl, rfl, rfl, by decide +kernel, rfl, by decide +kernel, by decide +kernel⟩ (Or.inl rfl) (Or.inl rfl) rfl rfl (fun _ => rfl) E.own no O rfl rfl, ?_, ?_⟩
  · obtain ⟨_, _, _, _, _, _, _, _, _, rfl, _⟩ := F.ex
    intro s a us ws _ h1 h2
    match us, ws, h1, h2 with
    | [_], [], _, _ => exact .of_eq rfl
  · obtain ⟨_, _, _, _, _, _, _, _, _, rfl, _⟩ := F.ex
    intro s a us ws _ h1 h2
    match us, ws, h1, h2 with
    | [], [_], _, _ => exact .of_eq rfl
theorem ini_11 (F : Fun K "__init__" "BadStanding.__init__" (inClass (top 13) 0) fI fd) (E : ErrC K mg B (nmE 11) C) (iC : findIn K (.ref C) "__init__" = some (some (.ref fI))) (tI : typeIn K (.ref fI) = some (.type "function")) (no : findIn K (.ref C) (fE 11) = some none) (O : BaseC K mg "PlayError" B) :
    ErrM P w K mg base B (nmE 11) (fE 11) C := by
  refine ⟨E, no, fI, fd, iC, tI, ok_init F ⟨rfl, rfl, rfl, by decide +kernel, rfl, by decide +kernel, by decide +kernel⟩ (Or.inl rfl) (Or.inl rfl) rfl rfl (fun _ => rfl) E.own no O rfl rfl, ?_, ?_⟩
  · obtain ⟨_, _, _, _, _, _, _, _, _, rfl, _⟩ := F.ex
    intro s a us ws _ h1 h2
    match us, ws, h1, h2 with
    | [_], [], _, _ => exact .of_eq rfl
  · obtain ⟨_, _, _, _, _, _, _, _, _, rfl, _⟩ := F.ex
    intro s a us ws _ h1 h2
    match us, ws, h1, h2 with
    | [], [_], _, _ => exact .of_eq rfl
theorem ini_12 (F : Fun K "__init__" "BadFormula.__init__" (inClass (top 14) 0) fI fd) (E : ErrC K mg B (nmE 12) C) (iC : findIn K (.ref C) "__init__" = some (some (.ref fI))) (tI : typeIn K (.ref fI) = some (.type "function")) (no : findIn K (.ref C) (fE 12) = some none) (O : BaseC K mg "PlayError" B) :
    ErrM P w K mg base B (nmE 12) (fE 12) C := by
  refine ⟨E, no, fI, fd, iC, tI, ok_init F ⟨rfl, rfl, rfl, by decide +kernel, rfl, by decide +kernel, by decide +kernel⟩ (Or.inl rfl) (Or.inl rfl) rfl rfl (fun _ => rfl) E.own no O rfl rfl, ?_, ?_⟩
  · obtain ⟨_, _, _, _, _, _, _, _, _, rfl, _⟩ := F.ex
    intro s a us ws _ h1 h2
    match us, ws, h1, h2 with
    | [_], [], _, _ => exact .of_eq rfl
  · obtain ⟨_, _, _, _, _, _, _, _, _, rfl, _⟩ := F.ex
    intro s a us ws _ h1 h2
    match us, ws, h1, h2 with
    | [], [_], _, _ => exact .of_eq rfl
theorem ini_13 (F : Fun K "__init__" "BadFilling.__init__" (inClass (top 15) 0) fI fd) (E : ErrC K mg B (nmE 13) C) (iC : findIn K (.ref C) "__init__" = some (some (.ref fI))) (tI : typeIn K (.ref fI) = some (.type "function")) (no : findIn K (.ref C) (fE 13) = some none) (O : BaseC K mg "PlayError" B) :
    ErrM P w K mg base B (nmE 13) (fE 13) C := by
  refine ⟨E, no, fI, fd, iC, tI, ok_init F ⟨rfl, rfl, rfl, by decide +kernel, rfl, by decide +kernel, by decide +kernel⟩ (Or.inl rfl) (Or.inl rfl) rfl rfl (fun _ => rfl) E.own no O rfl rfl, ?_, ?_⟩
  · obtain ⟨_, _, _, _, _, _, _, _, _, rfl, _⟩ := F.ex
    intro s a us ws _ h1 h2
    match us, ws, h1, h2 with
    | [_], [], _, _ => exact .of_eq rfl
  · obtain ⟨_, _, _, _, _, _, _, _, _, rfl, _⟩ := F.ex
    intro s a us ws _ h1 h2
    match us, ws, h1, h2 with
    | [], [_], _, _ => exact .of_eq rfl
theorem ini_14 (F : Fun K "__init__" "BadTies.__init__" (inClass (top 16) 0) fI fd) (E : ErrC K mg B (nmE 14) C) (iC : findIn K (.ref C) "__init__" = some (some (.ref fI))) (tI : typeIn K (.ref fI) = some (.type "function")) (no : findIn K (.ref C) (fE 14) = some none) (O : BaseC K mg "PlayError" B) :
    ErrM P w K mg base B (nmE 14) (fE 14) C := by
  refine ⟨E, no, fI, fd, iC, tI, ok_init F ⟨rfl, rfl, rfl, by decide +kernel, rfl, by decide +kernel, by decide +kernel⟩ (Or.inl rfl) (Or.inl rfl) rfl rfl (fun _ => rfl) E.own no O rfl rfl, ?_, ?_⟩
  · obtain ⟨_, _, _, _, _, _, _, _, _, rfl, _⟩ := F.ex
    intro s a us ws _ h1 h2
    match us, ws, h1, h2 with
    | [_], [], _, _ => exact .of_eq rfl
  · obtain ⟨_, _, _, _, _, _, _, _, _, rfl, _⟩ := F.ex
    intro s a us ws _ h1 h2
    match us, ws, h1, h2 with
    | [], [_], _, _ => exact .of_eq rfl
theorem ini_15 (F : Fun K "__init__" "BadStep.__init__" (inClass (top 17) 0) fI fd) (E : ErrC K mg B (nmE 15) C) (iC : findIn K (.ref C) "__init__" = some (some (.ref fI))) (tI : typeIn K (.ref fI) = some (.type "function")) (no : findIn K (.ref C) (fE 15) = some none) (O : BaseC K mg "PlayError" B) :
    ErrM P w K mg base B (nmE 15) (fE 15) C := by
  refine ⟨E, no, fI, fd, iC, tI, ok_init F ⟨rfl, rfl, rfl, by decide +kernel, rfl, by decide +kernel, by decide +kernel⟩ (Or.inl rfl) (Or.inl rfl) rfl rfl (fun _ => rfl) E.own no O rfl rfl, ?_, ?_⟩
  · obtain ⟨_, _, _, _, _, _, _, _, _, rfl, _⟩ := F.ex
    intro s a us ws _ h1 h2
    match us, ws, h1, h2 with
    | [_], [], _, _ => exact .of_eq rfl
  · obtain ⟨_, _, _, _, _, _, _, _, _, rfl, _⟩ := F.ex
    intro s a us ws _ h1 h2
    match us, ws, h1, h2 with
    | [], [_], _, _ => exact .of_eq rfl
theorem ini_16 (F : Fun K "__init__" "NotOfOne.__init__" (inClass (top 18) 0) fI fd) (E : ErrC K mg B (nmE 16) C) (iC : findIn K (.ref C) "__init__" = some (some (.ref fI))) (tI : typeIn K (.ref fI) = some (.type "function")) (O : BaseC K mg "PlayError" B) :
    ErrM0 P w K mg base B (nmE 16) C := by
  refine ⟨E, fI, fd, iC, tI, ok_init0 F ⟨rfl, rfl, rfl, by decide +kernel, rfl, by decide +kernel, by decide +kernel⟩ (Or.inl rfl) rfl rfl (fun _ => rfl) E.own O, ?_⟩
  obtain ⟨_, _, _, _, _, _, _, _, _, rfl, _⟩ := F.ex
  intro s a us ws _ h1 h2
  match us, ws, h1, h2 with
  | [], [], _, _ => exact .of_eq rfl
end
end Zk

set_option maxHeartbeats 4000000
/-! E7: errors made in lists, their fields, of which classes they are. -/
namespace Zk
open PySem PySem.Spec PyProof.Rows L2
open PySem.W (findIn subIn typeIn keepIn excTail kitOne kitAny exmOne clsIn)
/-- all stays but at p -/
def Off (p : Addr) (H H' : Hp) : Prop := ∀ b o, b ≠ p → H b = some o → H' b = some o
theorem Off.err {p : Addr} {H H' : Hp} {xs : List V} (h : Off p H H') (e : H p = some (.lst xs)) {C : Addr} {f : Str} {v : V} {a : Addr} (t : ErrAt H C f v a) : ErrAt H' C f v a := by
  obtain ⟨d, h1, h2⟩ := t
  exact ⟨d, h _ _ (ne_of h1 e fun z => nomatch z) h1, h _ _ (ne_of h2 e fun z => nomatch z) h2⟩
theorem Off.same {p : Addr} {H0 H H' : Hp} (h : Off p H H') (s : Same H0 H) (n : H0 p = none) : Same H0 H' := fun b o e => h b o (fun z => by rw [z, n] at e; cases e) (s _ _ e)
/-- an error of the class at C at a: with its one field, or with none -/
def MkAt (H : Hp) (C : Addr) (f : Option Str) (v : V) (a : Addr) : Prop := match f with
  | some f => ErrAt H C f v a
  | none => H a = some (exo a C none)
theorem MkAt.same {H H' : Hp} (e : Same H H') {C : Addr} {f : Option Str} {v : V} {a : Addr} (h : MkAt H C f v a) : MkAt H' C f v a := by
  cases f with
  | some f => exact ErrAt.same e h
  | none => exact e _ _ h
theorem MkAt.off {p : Addr} {H H' : Hp} {xs : List V} (k : Off p H H') (e : H p = some (.lst xs)) {C : Addr} {f : Option Str} {v : V} {a : Addr} (h : MkAt H C f v a) : MkAt H' C f v a := by
  cases f with
  | some f => exact k.err e h
  | none => exact k _ _ (ne_of h e fun z => nomatch z) h
theorem MkAt.any {H : Hp} {C : Addr} {f : Option Str} {v : V} {a : Addr} (h : MkAt H C f v a) : H a = some (exo a C none) ∨ ∃ f v, ErrAt H C f v a := by
  cases f with
  | some f => exact .inr ⟨f, v, h⟩
  | none => exact .inl h
/-- a row of errors -/
def MksAt (H : Hp) (v : V) : List (Addr × Option Str) → List Addr → Prop
  | [], [] => True
  | c :: r, a :: s => MkAt H c.1 c.2 v a ∧ MksAt H v r s
  | _, _ => False
theorem MksAt.same {H H' : Hp} (e : Same H H') {v : V} : ∀ {cs : List (Addr × Option Str)} {as : List Addr}, MksAt H v cs as → MksAt H' v cs as
  | [], [], _ => True.intro
  | _ :: _, _ :: _, ⟨h, t⟩ => ⟨h.same e, MksAt.same e t⟩
theorem MksAt.off {p : Addr} {H H' : Hp} {xs : List V} (k : Off p H H') (e : H p = some (.lst xs)) {v : V} : ∀ {cs : List (Addr × Option Str)} {as : List Addr}, MksAt H v cs as → MksAt H' v cs as
  | [], [], _ => True.intro
  | _ :: _, _ :: _, ⟨h, t⟩ => ⟨h.off k e, MksAt.off k e t⟩
theorem MksAt.app {H : Hp} {v : V} : ∀ {cs ds : List (Addr × Option Str)} {as bs : List Addr}, MksAt H v cs as → MksAt H v ds bs → MksAt H v (cs ++ ds) (as ++ bs)
  | [], _, [], _, _, t => t
  | _ :: _, _, _ :: _, _, ⟨h, t⟩, u => ⟨h, MksAt.app t u⟩
theorem MksAt.len {H : Hp} {v : V} : ∀ {cs : List (Addr × Option Str)} {as : List Addr}, MksAt H v cs as → as.length = cs.length
  | [], [], _ => rfl
  | _ :: _, _ :: _, ⟨_, t⟩ => congrArg Nat.succ t.len
theorem MksAt.get {H : Hp} {v : V} : ∀ {cs : List (Addr × Option Str)} {as : List Addr} {i : Nat} {c : Addr × Option Str}, MksAt H v cs as → cs[i]? = some c → ∃ a, as[i]? = some a ∧ MkAt H c.1 c.2 v a
  | _ :: _, _ :: _, 0, c, ⟨h, _⟩, e => by
    simp at e
    subst e
    exact ⟨_, rfl, h⟩
  | _ :: _, _ :: _, i + 1, c, ⟨_, t⟩, e => by
    obtain ⟨a, h1, h2⟩ := MksAt.get (i := i) (c := c) t (by simpa using e)
    exact ⟨a, by simpa using h1, h2⟩
def eF : Nat → Option Str
  | 16 => none
  | i => some (fE i)
def cfs (Cs : Nat → Addr) : List (Addr × Option Str) := (List.range 17).map fun i => (Cs i, eF i)
theorem cfs_get {Cs : Nat → Addr} {i : Nat} (h : i < 17) : (cfs Cs)[i]? = some (Cs i, eF i) := by
  unfold cfs
  rw [List.getElem?_map, List.getElem?_range h]
  rfl

/-! ### the rules -/
def tMkP (C : Addr) (f : Option Str) (i : Nat) : TE := fun σ H Q => ∃ v, σ[i]? = some (some v) ∧ ∀ a H', Same H H' → MkAt H' C f v a → Q (.ref a) H'
theorem mk_read {H1 : Hp} {C : Addr} {f : Str} {v : V} {Q : VK} (q : ∀ a H', Same H1 H' → MkAt H' C (some f) v a → Q (.ref a) H') : ∀ a, H1 a = none → spInit C f [.ref a, v] (upd H1 a (exo a C none)) (fun u H3 => u = .non ∧ Q (.ref a) H3) E0 := by
  intro a na
  refine ⟨a, v, rfl, upd_same, fun dx hd ne => ⟨rfl, q a _ (fun b o e => ?_) ⟨dx, upd_same, ?_⟩⟩⟩
  · have nb : b ≠ a := fun z => by rw [z, na] at e; cases e
    rw [upd_ne nb, upd_ne (ne_of_none e ((upd_ne ne).symm.trans hd)), upd_ne nb]
    exact e
  · rw [upd_ne ne, upd_same]
/-- a row of errors made, all of the value in slot i -/
def tMks (i : Nat) (cs : List (Addr × Option Str)) : TA := fun σ H Q => ∃ v, σ[i]? = some (some v) ∧ ∀ as H', Same H H' → MksAt H' v cs as → Q (as.map V.ref) H'
/-- found.extend([..]), found in slot i -/
def tExt (i : Nat) (t : TA) : TS := fun D σ H => ∃ p xs0, σ[i]? = some (some (.ref p)) ∧ H p = some (.lst xs0) ∧ t σ H fun ys H1 => ∃ xs, H1 p = some (.lst xs) ∧ xs.length + ys.length ≤ 1000 ∧ ∀ H2, Off p H1 H2 → H2 p = some (.lst (xs ++ ys)) → D.nx σ H2
section
variable {X : Cx} {x y f : Str} {B C : Addr} {p p2 pos kpos : Pos} {e : Expr} {te : TE} {t : TA} {es : List Expr} {i : Nat} {c : Addr × Option Str} {cs : List (Addr × Option Str)}
theorem pe_mkP (G : ErrM X.prog X.w X.K X.mg X.base B x f C) (hr : Room 2 X.A) (hg : Gl X x) (he : PE X (.Name y p2) (tVar i)) (hdb : (x == ("__debug__" : Str)) = false := by decide +kernel) : PE X (.Call (.Name x p) [.Name y p2] [] pos) (tMkP C (some f) i) := by
  obtain ⟨fI, fd, iC, tI, F1, b1, _⟩ := G.ini
  refine ⟨fun pins s σ H Q I h => (pe_mkv G.err.own iC tI F1 hr b1 hg G.err.gC (pa_cons he pa_nil) hdb).run pins s σ H Q I ?_⟩
  obtain ⟨v, hv, q⟩ := h
  exact ⟨v, hv, rfl, by decide, mk_read q⟩
theorem pe_mkN (G : ErrM X.prog X.w X.K X.mg X.base B x f C) (hr : Room 2 X.A) (hg : Gl X x) (he : PE X (.Name y p2) (tVar i)) (hdb : (x == ("__debug__" : Str)) = false := by decide +kernel) : PE X (.Call (.Name x p) [] [⟨some f, .Name y p2, kpos⟩] pos) (tMkP C (some f) i) := by
  obtain ⟨fI, fd, iC, tI, F1, _, b1⟩ := G.ini
  refine ⟨fun pins s σ H Q I h => (pe_mkvK G.err.own iC tI F1 hr b1 hg G.err.gC (pk_cons he pk_nil) rfl rfl hdb).run pins s σ H Q I ?_⟩
  obtain ⟨v, hv, q⟩ := h
  exact ⟨v, hv, rfl, mk_read q⟩
theorem pe_mk0 (G : ErrM0 X.prog X.w X.K X.mg X.base B x C) (hr : Room 2 X.A) (hg : Gl X x) (hdb : (x == ("__debug__" : Str)) = false := by decide +kernel) : PE X (.Call (.Name x p) [] [] pos) (tMkP C none i) := by
  obtain ⟨fI, fd, iC, tI, F1, b1⟩ := G.ini
  refine ⟨fun pins s σ H Q I h => (pe_mkv0 G.err.own iC tI F1 hr b1 hg G.err.gC hdb).run pins s σ H Q I ?_⟩
  obtain ⟨v, hv, q⟩ := h
  exact fun a na => ⟨a, rfl, upd_same, rfl, q a _ (same_new na _) upd_same⟩
theorem pa_mks0 : PA X [] (tMks i []) := ⟨fun pos pins s σ H Q I h => pa_nil.run pos pins s σ H Q I (let ⟨_, _, q⟩ := h; q [] H (Same.refl H) True.intro)⟩
theorem pa_mks (he : PE X e (tMkP c.1 c.2 i)) (ht : PA X es (tMks i cs)) (hs : starEach (e :: es) X.env = (false, eval e X.env) :: starEach es X.env := by rfl) : PA X (e :: es) (tMks i (c :: cs)) := by
  refine ⟨fun pos pins s σ H Q I h => (pa_cons he ht hs).run pos pins s σ H Q I ?_⟩
  obtain ⟨v, hv, q⟩ := h
  refine ⟨v, hv, fun a H1 s1 m1 => ⟨v, hv, fun as H2 s2 m2 => ?_⟩⟩
  exact q (a :: as) H2 (s1.trans s2) ⟨m1.same s2, m2⟩
theorem ps_ext {z : Str} {pz pa pl pc ps' : Pos} (he : PE X (.Name z pz) (tVar i)) (ht : PA X es t) (mono : ∀ σ H Q Q', (∀ ys H1, Q ys H1 → Q' ys H1) → t σ H Q → t σ H Q')
    (hline : (pa.endLine == pc.line) = true := by rfl) : PS X (.Expr (.Call (.Attribute (.Name z pz) "extend" pa) [.List es pl] [] pc) ps') (tExt i t) := by
  refine ⟨fun pins s σ H D I h => (ps_expr (pe_bm PySem.F.plainAttrs_list PySem.F.slot_list_extend PySem.F.type_list_extend mt_extend he (pa_cons (pe_lst ht) pa_nil) (hline := hline))).run pins s σ H D I ?_⟩
  obtain ⟨p, xs0, hp, h0, q⟩ := h
  refine ⟨.ref p, hp, .inl ⟨rfl, xs0, SqL.of h0⟩, ?_⟩
  refine mono σ H _ _ (fun ys H1 z => ?_) q
  obtain ⟨xs, e, hl, k⟩ := z
  refine ⟨sl_small (by omega), fun l na => ⟨p, l, xs, ys, rfl, rfl, (upd_ne (ne_of_none e na)).trans e, upd_same, sl_small (by omega), k _ (fun b o hb z => ?_) upd_same⟩⟩
  rw [upd_ne hb, upd_ne (ne_of_none z na)]
  exact z
theorem mks_mono : ∀ σ H (Q Q' : List V → Hp → Prop), (∀ ys H1, Q ys H1 → Q' ys H1) → tMks i cs σ H Q → tMks i cs σ H Q' := fun σ H Q Q' h ⟨v, hv, q⟩ => ⟨v, hv, fun as H' s m => h _ _ (q as H' s m)⟩
end

/-! ### fields of what stands in such a row -/
/-- made[j].f, made in slot i -/
def tMF (Cs : Nat → Addr) (i j : Nat) : TE := fun σ H Q => ∃ l as v, σ[i]? = some (some (.ref l)) ∧ H l = some (.lst (as.map V.ref)) ∧ MksAt H v (cfs Cs) as ∧ Q v H
/-- several of them -/
def tMFs (Cs : Nat → Addr) (i n : Nat) : TA := fun σ H Q => ∃ l as v, σ[i]? = some (some (.ref l)) ∧ H l = some (.lst (as.map V.ref)) ∧ MksAt H v (cfs Cs) as ∧ Q (List.replicate n v) H
section
variable {X : Cx} {y f : Str} {B : Addr} {Cs : Nat → Addr} {p2 p3 p4 pos : Pos} {e : Expr} {es : List Expr} {i j u n : Nat} {ji : Int}
theorem pe_mf (j : Nat) (G : Errs X.prog X.w X.K X.mg X.base B Cs) (he : PE X (.Name y p2) (tVar i)) (hs : PlainIx (.Constant (.int ji) u p3)) (hj : j < 16 := by decide) (hji : ji = (j : Int) := by rfl) (hf : fE j = f := by rfl) (ej : eF j = some (fE j) := by rfl) :
    PE X (.Attribute (.Subscript (.Name y p2) (.Constant (.int ji) u p3) p4) f pos) (tMF Cs i j) := by
  subst hji
  subst hf
  refine ⟨fun pins s σ H Q I h => (pe_errf (pe_ix ix_list he pe_int hs)).run pins s σ H Q I ?_⟩
  obtain ⟨l, as, v, h1, h2, h3, q⟩ := h
  obtain ⟨a, ha, hm⟩ := h3.get (cfs_get (by omega : j < 17))
  rw [ej] at hm
  obtain ⟨d, d1, d2⟩ := hm
  have O := (G.one j hj)
  have gt : (as.map V.ref)[j]? = some (.ref a) := by rw [List.getElem?_map, ha]; rfl
  exact ⟨.ref l, h1, l, as.map V.ref, (j : Int), .ref a, rfl, rfl, SqL.of h2, atI_nat gt, a, Cs j, d, _, v, rfl, O.err.own, O.no, d1, d2, by simp [List.lookup], q⟩
theorem pa_mfs0 : PA X [] (tMFs Cs i 0) := ⟨fun pos pins s σ H Q I h => pa_nil.run pos pins s σ H Q I (let ⟨_, _, _, _, _, _, q⟩ := h; q)⟩
theorem pa_mfs (he : PE X e (tMF Cs i j)) (ht : PA X es (tMFs Cs i n)) (hs : starEach (e :: es) X.env = (false, eval e X.env) :: starEach es X.env := by rfl) : PA X (e :: es) (tMFs Cs i (n + 1)) := by
  refine ⟨fun pos pins s σ H Q I h => (pa_cons he ht hs).run pos pins s σ H Q I ?_⟩
  obtain ⟨l, as, v, h1, h2, h3, q⟩ := h
  exact ⟨l, as, v, h1, h2, h3, l, as, v, h1, h2, h3, q⟩
theorem mfs_mono : ∀ σ H (Q Q' : List V → Hp → Prop), (∀ ys H1, Q ys H1 → Q' ys H1) → tMFs Cs i n σ H Q → tMFs Cs i n σ H Q' := fun σ H Q Q' h ⟨l, as, v, h1, h2, h3, q⟩ => ⟨l, as, v, h1, h2, h3, h _ _ q⟩
end

/-! ### of which classes an error is -/
/-- what is known of the error at a: it is of the class i -/
abbrev IsAt := Hp → Nat → Addr → Prop
def tIs (Z : IsAt) (i j : Nat) : TE := fun σ H Q => ∃ a c, σ[i]? = some (some (.ref a)) ∧ c < 17 ∧ Z H c a ∧ Q (.bl (decide (c = j))) H
def tIss (Z : IsAt) (i : Nat) (js : List Nat) : TA := fun σ H Q => ∃ a c, σ[i]? = some (some (.ref a)) ∧ c < 17 ∧ Z H c a ∧ Q (js.map fun j => .bl (decide (c = j))) H
/-- an error that is tracked -/
def Zt (Cs : Nat → Addr) : IsAt := fun H c a => H a = some (exo a (Cs c) none) ∨ ∃ f v, ErrAt H (Cs c) f v a
section
variable {X : Cx} {x y f : Str} {B : Addr} {Cs : Nat → Addr} {p p2 p3 p4 pos : Pos} {e : Expr} {es : List Expr} {i j n : Nat} {Z : IsAt} {js : List Nat}
theorem pe_isT (j : Nat) (G : Errs X.prog X.w X.K X.mg X.base B Cs) (he : PE X (.Name y p2) (tVar i)) (hg : Gl X x) (hi : Gl X "isinstance") (mi : X.mg "isinstance" = none) (hj : j < 17 := by decide) (hx : nmE j = x := by rfl) (hdb : (x == ("__debug__" : Str)) = false := by decide +kernel) :
    PE X (.Call (.Name "isinstance" p) [.Name y p2, .Name x p3] [] pos) (tIs (Zt Cs) i j) := by
  subst hx
  refine ⟨fun pins s σ H Q I h => (pe_callB call_isErr hi mi PyProof.Rows.boot_isinstance (pa_cons he (pa_cons (pe_glob (v := .ref (Cs j)) hg (G.err hj).gC (show Value.ref (Cs j) = Value.ref (Cs j) from rfl) hdb) pa_nil))).run pins s σ H Q I ?_⟩
  obtain ⟨a, c, h1, h2, h3, q⟩ := h
  exact ⟨.ref a, h1, a, Cs c, _, _, _, rfl, ClsV.own _, (G.err h2).own, G.gk, h3, G.kit h2 hj, q⟩
theorem pa_iss0 : PA X [] (tIss Z i []) := ⟨fun pos pins s σ H Q I h => pa_nil.run pos pins s σ H Q I (let ⟨_, _, _, _, _, q⟩ := h; q)⟩
theorem pa_iss (he : PE X e (tIs Z i j)) (ht : PA X es (tIss Z i js)) (hs : starEach (e :: es) X.env = (false, eval e X.env) :: starEach es X.env := by rfl) : PA X (e :: es) (tIss Z i (j :: js)) := by
  refine ⟨fun pos pins s σ H Q I h => (pa_cons he ht hs).run pos pins s σ H Q I ?_⟩
  obtain ⟨a, c, h1, h2, h3, q⟩ := h
  exact ⟨a, c, h1, h2, h3, a, c, h1, h2, h3, q⟩
theorem iss_mono : ∀ σ H (Q Q' : List V → Hp → Prop), (∀ ys H1, Q ys H1 → Q' ys H1) → tIss Z i js σ H Q → tIss Z i js σ H Q' := fun σ H Q Q' h ⟨a, c, h1, h2, h3, q⟩ => ⟨a, c, h1, h2, h3, h _ _ q⟩
end
end Zk

set_option maxHeartbeats 4000000
/-! E8: defs called while an exception is handled, whose promise speaks of that exception. -/
namespace Zk
open PySem PySem.Spec PyProof.Rows L2
open PySem.W (findIn subIn typeIn keepIn excTail kitOne kitAny exmOne clsIn)
open L2H (RoomH Hot1 PinOk cxH inv_startH roomH_of)
/-- p is the exception that is handled -/
abbrev SpP := (Addr × Obj) → Sp
structure FnHp (P : Program) (w : World) (K : PySem.W.Frag) (mg : Str → Option Value) (base : Heap) (CX : CXT) (k : Nat) (f : Addr) (fd : FuncData) (ps : List Str) (sp : SpP) : Prop where
  len : ∀ p vs H Q E, sp p vs H Q E → vs.length = ps.length
  run : ∀ (A : Around) (outer : List Env) (s : Shared) (H : Hp) (args : Args) (us : List Value) (vs : List V) (Q : VK) (E : XK) (p : Addr × Obj), RoomH k A → PinOk outer H s p → Env0 P w K mg base A outer s H → BindsTo s fd args (ps.zip us) → Vals vs us → sp p vs H Q E →
    codeAny (model P w) A (.call (.ref f) args) (CR CX outer P w H s Q E) s
theorem fn_ofHp {CX : CXT} {P : Program} {w : World} {K : PySem.W.Frag} {mg : Str → Option Value} {base : Heap} {k : Nat} {f : Addr} {fd : FuncData} {x qual : Str} {st : Stmt}
    {N ps : List Str} {sp : SpP} (F : Fun K x qual st f fd) (S : FnScope N ps (defScope st))
    (len : ∀ p vs H Q E, sp p vs H Q E → vs.length = ps.length)
    (hbody : ∀ (cdv : Value) (A : Around) (outer : List Env) (s : Shared) (H : Hp) (vs : List V) (Q : VK) (E : XK) (p : Addr × Obj), RoomH k (A.deeper (envOfC qual (defScope st) s.heap.objs.size f cdv)) → sp p vs H Q E →
      ∃ t, PSs (cxH CX P w K mg base N qual (defScope st) f cdv A outer s H E p) (defBody st) t ∧ t { nx := fun _ H' => Q .non H', rt := Q } (L2.start N vs) H) :
    FnHp P w K mg base CX (k + 1) f fd ps sp := by
  obtain ⟨_, _, kV, doc, pm, an, cdv, ct, _, rfl, lk, hcd⟩ := F.ex
  refine ⟨len, ?_⟩
  intro A outer s H args us vs Q E p hr pin e0 hb r hsp
  have there := fun b o e => (e0.bs b o e).1
  have KX : K.In s.heap := e0.mod.kin.keeps there
  have lim : s.heap.NoLimit := e0.mod.nolimit.keeps there
  have par : ∀ y ∈ ps.zip us, (defScope st).names.lookup y.1 = some .local ∨ ((defScope st).names.lookup y.1 = some .cell ∧ ((cellsFrom (s.heap.objs.size + 1) (defScope st).names []).lookup y.1).isSome = true) := by
    rintro ⟨n, v⟩ hy
    exact (S.par n (List.of_mem_zip hy).1).imp id fun q => ⟨q, PySem.W.cellsFrom_some _ _ _ (.inl q)⟩
  refine codeAny_call_function hr.depth (KX _ _ lk) rfl S.co S.gen rfl (PySem.W.codeRec_of KX hcd) (hb _ _ _ _ (wpAny_newFunctionEnv_cells S.kind par ?_))
  rintro env rfl s1 x
  obtain ⟨t, ht, hq⟩ := hbody cdv A outer s H vs Q E p (hr.deeper _) hsp
  refine ⟨lim.keeps x.toInCall.keep, codeAny_func (wpAny_mono (ht.run [] s1 (L2.start N vs) H _ (inv_startH S pin e0 (len p _ _ _ _ hsp) r x) hq) ?_ fun e s' hs => hs)⟩
  intro fl s' hs
  match fl, hs with
  | .brk, ⟨_, _, _, q⟩ => exact q.elim
  | .cont, ⟨_, _, _, q⟩ => exact q.elim
  | .next, ⟨_, H', J, q⟩ => exact ⟨.non, H', J.os, J.bare, J.base, J.hok, rfl, q⟩
  | .ret u, ⟨v, _, H', J, rv, q⟩ => exact ⟨v, H', J.os, J.bare, J.base, J.hok, rv, q⟩

/-- such a def called where p is what is handled: f(e, ..) -/
def tCallP (sp : Sp) (t : TA) : TE := fun σ H Q => t σ H fun vs H1 => sp vs H1 Q E0
section
variable {X : Cx} {k : Nat} {f : Addr} {fd : FuncData} {ps : List Str} {sp : SpP} {x : Str} {q pos : Pos} {e : Expr} {es : List Expr} {t : TA} {p : Addr × Obj}
theorem pe_callHp (G : FnHp X.prog X.w X.K X.mg X.base CX0 k f fd ps sp) (hr : RoomH k X.A) (hp : p ∈ X.pn) (hg : Gl X x) (hm : X.mg x = some (.ref f)) (hk : PySem.W.keepIn X.K (.ref f) = true) (hb : Binds X.K fd ps [])
    (ha : PA X (e :: es) t) (hdb : (x == ("__debug__" : Str)) = false := by decide +kernel) (he : starEach (e :: es) X.env = (false, eval e X.env) :: starEach es X.env := by rfl) (hpl : (backTo pos (starEach es X.env)).any (·.1) = false := by rfl) :
    PE X (.Call (.Name x q) (e :: es) [] pos) (tCallP (sp p) t) := by
  refine ⟨fun pins s σ H Q I h => wpAny_Call_Name_kw (ld_glob I hg hm ?_ hdb)⟩
  refine PySem.W.callWith_K (h₀ := X.base) I.ok.mod.kin hk (thn (ha.run pos pins s σ H _ I h) ?_) he hpl
  rintro us s1 ⟨vs, H1, I1, r, w⟩
  refine ⟨I1.kIn, ?_⟩
  have len : us.length = ps.length := r.length.symm.trans (G.len p _ _ _ _ w)
  have b := hb s1 us I1.kIn (by simpa using len)
  rw [List.append_nil] at b
  obtain ⟨p1, p2, p3, p4, p5⟩ := I1.pin p (List.mem_append_left _ hp)
  have pin : PinOk X.stack H1 s1 p := ⟨p1, p2, fun hm => (List.mem_cons.mp (I1.stkSub p.1 hm)).elim p3 p4, p5⟩
  refine wpAny_call (codeAny_mono (G.run X.A X.stack s1 H1 ⟨us, []⟩ us vs Q E0 p hr pin I1.env0 b r w) ?_)
  intro r s' z
  match r, z with
  | .error e, z => exact z.elim
  | .ok .next, z => exact z.elim
  | .ok .brk, z => exact z.elim
  | .ok .cont, z => exact z.elim
  | .ok (.ret u), z => exact I1.after z
end

/-! ### isinstance of the exception that is handled -/
def Zp (Cs : Nat → Addr) (p : Addr × Obj) : IsAt := fun H c a => a = p.1 ∧ p.2.cls = .ref (Cs c) ∧ (∃ vs, p.2.data = .fields vs) ∧ (p.2.dict = none ∨ ∃ dd fs, p.2.dict = some dd ∧ H dd = some (.xd fs))
section
variable {X : Cx} {x y f : Str} {B C : Addr} {Cs : Nat → Addr} {p p2 p3 p4 pos : Pos} {i : Nat} {pp : Addr × Obj} {pins : List (Addr × Obj)} {σ : List (Option V)} {H : Hp} {s : Shared}
theorem pin_kit (T : OwnE X.K C) (G : ClsG X.K) (I : Inv X pins σ H s) (hp : pp ∈ X.pn) (hc : pp.2.cls = .ref C) (hf : ∃ vs, pp.2.data = .fields vs) (hd : pp.2.dict = none ∨ ∃ dd fs, pp.2.dict = some dd ∧ H dd = some (.xd fs)) :
    ∃ P : Heap → Prop, PySem.W.KitX X.K (.ref pp.1) (.ref C) P ∧ P s.heap := by
  have ho := (I.pin pp (List.mem_append_left _ hp)).1
  obtain ⟨vs, hv⟩ := hf
  have nc : PySem.W.notCls pp.2 := by unfold PySem.W.notCls; rw [hv] <;> rfl
  rcases hd with hd | ⟨dd, fs, hd, hx⟩
  · exact ⟨_, PySem.W.kitx_exc (od := none) T.isCls T.ga T.gg T.exC T.ca G.sp G.tk (T.mro (by decide +kernel)), ⟨ho, hc, nc, by rw [hd]; trivial⟩⟩
  · obtain ⟨mA, hns, _⟩ := (I.hok dd _ hx : ObjOk X.prog X.w H s.heap dd (.xd fs))
    obtain ⟨od, hod, _⟩ := lookIn_ns hns
    exact ⟨_, PySem.W.kitx_exc (od := some od) T.isCls T.ga T.gg T.exC T.ca G.sp G.tk (T.mro (by decide +kernel)), ⟨ho, hc, nc, by rw [hd]; exact hod⟩⟩
def rIsP (K : PySem.W.Frag) (pp : Addr × Obj) : List V → Hp → VK → Prop := fun xs H Q => ∃ (C : Addr) (c : V) (u : Value) (b : Bool), xs = [.ref pp.1, c] ∧ ClsV c u ∧ OwnE K C ∧ ClsG K ∧ pp.2.cls = .ref C ∧ (∃ vs, pp.2.data = .fields vs) ∧ (pp.2.dict = none ∨ ∃ dd fs, pp.2.dict = some dd ∧ H dd = some (.xd fs)) ∧
  kitOne K (.ref C) u = some b ∧ Q (.bl b) H
theorem call_isP (hp : pp ∈ X.pn) : CallR X (.builtin "isinstance") (rIsP X.K pp) := by
  intro pins s σ H xs us Q I r h
  obtain ⟨C, c, u, b, rfl, k, T, G, h1, h2, h3, e, q⟩ := h
  obtain ⟨u1, u2, rfl, r1, r2⟩ := vals2 r
  obtain rfl : u1 = Value.ref pp.1 := r1
  have e2 := k.eq r2
  subst e2
  obtain ⟨P, Z, hz⟩ := pin_kit T G I hp h1 h2 h3
  exact PySem.W.kia_one Z I.kIn hz e (fun z => nomatch z) fun tk => ⟨.bl b, H, I.tok tk, rfl, q⟩
theorem pe_isP (j : Nat) (hp : pp ∈ X.pn) (G : Errs X.prog X.w X.K X.mg X.base B Cs) (he : PE X (.Name y p2) (tVar i)) (hg : Gl X x) (hi : Gl X "isinstance") (mi : X.mg "isinstance" = none) (hj : j < 17 := by decide) (hx : nmE j = x := by rfl) (hdb : (x == ("__debug__" : Str)) = false := by decide +kernel) :
    PE X (.Call (.Name "isinstance" p) [.Name y p2, .Name x p3] [] pos) (tIs (Zp Cs pp) i j) := by
  subst hx
  refine ⟨fun pins s σ H Q I h => (pe_callB (call_isP hp) hi mi PyProof.Rows.boot_isinstance (pa_cons he (pa_cons (pe_glob (v := .ref (Cs j)) hg (G.err hj).gC (show Value.ref (Cs j) = Value.ref (Cs j) from rfl) hdb) pa_nil))).run pins s σ H Q I ?_⟩
  obtain ⟨a, c, h1, h2, ⟨rfl, h3, h4, h5⟩, q⟩ := h
  exact ⟨.ref pp.1, h1, Cs c, _, _, _, rfl, ClsV.own _, (G.err h2).own, G.gk, h3, h4, h5, G.kit h2 hj, q⟩
end
end Zk

set_option maxHeartbeats 4000000
/-! D3: errors by position, by name; what they carry; of which classes they are. -/
namespace Zk
open PySem PySem.Spec PyProof.Rows L2
open L2H (RoomH Hot1 PinOk cxH inv_startH roomH_of)
abbrev sByPos : Stmt := top 24
abbrev sByName : Stmt := top 25
abbrev sClasses : Stmt := top 26
abbrev sCarried : Stmt := top 31
def spMade (Cs : Nat → Addr) : Sp := fun vs H Q _ => ∃ v, vs = [v] ∧ ∀ l as H', Same H H' → H' l = some (.lst (as.map V.ref)) → MksAt H' v (cfs Cs) as → Q (.ref l) H'
def spCarried (Cs : Nat → Addr) : Sp := fun vs H Q _ => ∃ l as v, vs = [.ref l] ∧ H l = some (.lst (as.map V.ref)) ∧ MksAt H v (cfs Cs) as ∧ ∀ r H', Same H H' → H' r = some (.lst (List.replicate 16 v)) → Q (.ref r) H'
def yes (c : Nat) : List V := (List.range 17).map fun j => .bl (decide (c = j))
def spClasses (Z : IsAt) : Sp := fun vs H Q _ => ∃ a c, vs = [.ref a] ∧ c < 17 ∧ Z H c a ∧ ∀ r H', Same H H' → H' r = some (.lst (yes c)) → Q (.ref r) H'
section
variable {P : Program} {w : World} {K : PySem.W.Frag} {mg : Str → Option Value} {base : Heap} {f B : Addr} {fd : FuncData} {Cs : Nat → Addr}
theorem scByPos : FnScope ["it", "found"] ["it"] (defScope sByPos) := ⟨rfl, rfl, rfl, by decide +kernel, rfl, by decide +kernel, by decide +kernel⟩
theorem scByName : FnScope ["it", "found"] ["it"] (defScope sByName) := ⟨rfl, rfl, rfl, by decide +kernel, rfl, by decide +kernel, by decide +kernel⟩
theorem scClasses : FnScope ["error", "found"] ["error"] (defScope sClasses) := ⟨rfl, rfl, rfl, by decide +kernel, rfl, by decide +kernel, by decide +kernel⟩
theorem scCarried : FnScope ["made", "found"] ["made"] (defScope sCarried) := ⟨rfl, rfl, rfl, by decide +kernel, rfl, by decide +kernel, by decide +kernel⟩
theorem ok_byPos (F : Fun K "_law_by_position" "_law_by_position" sByPos f fd) (G : Errs P w K mg base B Cs) : FnOk P w K mg base CX0 3 f fd ["it"] (spMade Cs) := by
  refine F.ok scByPos (fun vs H Q E h => ?_) (fun cdv A outer s H vs Q E hr h => ?_)
  · obtain ⟨v, rfl, _⟩ := h
    rfl
  obtain ⟨v, rfl, q⟩ := h
  refine ⟨_, (pss_cons (ps_set (i := 1) scByPos.nd rfl (Or.inl rfl) (pe_lst pa_nil))
    (pss_cons (ps_ext (i := 1) (pv 1) (pa_mks (c := (Cs 0, eF 0)) (pe_mkP (G.one 0 (by decide)) hr (by rfl) (pv 0)) (pa_mks (c := (Cs 1, eF 1)) (pe_mkP (G.one 1 (by decide)) hr (by rfl) (pv 0)) (pa_mks (c := (Cs 2, eF 2)) (pe_mkP (G.one 2 (by decide)) hr (by rfl) (pv 0)) (pa_mks (c := (Cs 3, eF 3)) (pe_mkP (G.one 3 (by decide)) hr (by rfl) (pv 0)) (pa_mks (c := (Cs 4, eF 4)) (pe_mkP (G.one 4 (by decide)) hr (by rfl) (pv 0)) (pa_mks (c := (Cs 5, eF 5)) (pe_mkP (G.one 5 (by decide)) hr (by rfl) (pv 0)) pa_mks0)))))) mks_mono)
    (pss_cons (ps_ext (i := 1) (pv 1) (pa_mks (c := (Cs 6, eF 6)) (pe_mkP (G.one 6 (by decide)) hr (by rfl) (pv 0)) (pa_mks (c := (Cs 7, eF 7)) (pe_mkP (G.one 7 (by decide)) hr (by rfl) (pv 0)) (pa_mks (c := (Cs 8, eF 8)) (pe_mkP (G.one 8 (by decide)) hr (by rfl) (pv 0)) (pa_mks (c := (Cs 9, eF 9)) (pe_mkP (G.one 9 (by decide)) hr (by rfl) (pv 0)) (pa_mks (c := (Cs 10, eF 10)) (pe_mkP (G.one 10 (by decide)) hr (by rfl) (pv 0)) (pa_mks (c := (Cs 11, eF 11)) (pe_mkP (G.one 11 (by decide)) hr (by rfl) (pv 0)) pa_mks0)))))) mks_mono)
    (pss_cons (ps_ext (i := 1) (pv 1) (pa_mks (c := (Cs 12, eF 12)) (pe_mkP (G.one 12 (by decide)) hr (by rfl) (pv 0)) (pa_mks (c := (Cs 13, eF 13)) (pe_mkP (G.one 13 (by decide)) hr (by rfl) (pv 0)) (pa_mks (c := (Cs 14, eF 14)) (pe_mkP (G.one 14 (by decide)) hr (by rfl) (pv 0)) (pa_mks (c := (Cs 15, eF 15)) (pe_mkP (G.one 15 (by decide)) hr (by rfl) (pv 0)) (pa_mks (c := (Cs 16, eF 16)) (pe_mk0 (i := 0) G.last hr (by rfl)) pa_mks0))))) mks_mono)
    (pss_one (ps_ret (pv 1))))))), ?_⟩
  refine ⟨Nat.zero_le _, fun p hp => ?_⟩
  have S0 := same_new hp (.lst [])
  have e0 : upd H p (.lst []) p = some (.lst ([] : List V)) := upd_same
  refine ⟨p, _, rfl, e0, v, rfl, fun as1 G1 s1 m1 => ⟨_, s1 _ _ e0, ?_, fun H1 o1 e1 => ?_⟩⟩
  · have := m1.len
    simp only [List.length_append, List.length_map, List.length_cons, List.length_nil] at *
    omega
  have S1 : Same H H1 := o1.same (S0.trans s1) hp
  have L1 := m1.len
  have M1 := m1.off o1 (s1 _ _ e0)
  refine ⟨p, _, rfl, e1, v, rfl, fun as2 G2 s2 m2 => ⟨_, s2 _ _ e1, ?_, fun H2 o2 e2 => ?_⟩⟩
  · have := m2.len
    simp only [List.length_append, List.length_map, List.length_cons, List.length_nil] at *
    omega
  have S2 : Same H H2 := o2.same (S1.trans s2) hp
  have L2 := m2.len
  have M2 := ((M1.same s2).off o2 (s2 _ _ e1)).app (m2.off o2 (s2 _ _ e1))
  refine ⟨p, _, rfl, e2, v, rfl, fun as3 G3 s3 m3 => ⟨_, s3 _ _ e2, ?_, fun H3 o3 e3 => ?_⟩⟩
  · have := m3.len
    simp only [List.length_append, List.length_map, List.length_cons, List.length_nil] at *
    omega
  have S3 : Same H H3 := o3.same (S2.trans s3) hp
  have L3 := m3.len
  have M3 := ((M2.same s3).off o3 (s3 _ _ e2)).app (m3.off o3 (s3 _ _ e2))
  refine ⟨_, rfl, q p ((as1 ++ as2) ++ as3) H3 S3 ?_ M3⟩
  rw [e3]
  simp
theorem ok_byName (F : Fun K "_law_by_name" "_law_by_name" sByName f fd) (G : Errs P w K mg base B Cs) : FnOk P w K mg base CX0 3 f fd ["it"] (spMade Cs) := by
  refine F.ok scByName (fun vs H Q E h => ?_) (fun cdv A outer s H vs Q E hr h => ?_)
  · obtain ⟨v, rfl, _⟩ := h
    rfl
  obtain ⟨v, rfl, q⟩ := h
  refine ⟨_, (pss_cons (ps_set (i := 1) scByName.nd rfl (Or.inl rfl) (pe_lst pa_nil))
    (pss_cons (ps_ext (i := 1) (pv 1) (pa_mks (c := (Cs 0, eF 0)) (pe_mkN (G.one 0 (by decide)) hr (by rfl) (pv 0)) (pa_mks (c := (Cs 1, eF 1)) (pe_mkN (G.one 1 (by decide)) hr (by rfl) (pv 0)) (pa_mks (c := (Cs 2, eF 2)) (pe_mkN (G.one 2 (by decide)) hr (by rfl) (pv 0)) (pa_mks (c := (Cs 3, eF 3)) (pe_mkN (G.one 3 (by decide)) hr (by rfl) (pv 0)) pa_mks0)))) mks_mono)
    (pss_cons (ps_ext (i := 1) (pv 1) (pa_mks (c := (Cs 4, eF 4)) (pe_mkN (G.one 4 (by decide)) hr (by rfl) (pv 0)) (pa_mks (c := (Cs 5, eF 5)) (pe_mkN (G.one 5 (by decide)) hr (by rfl) (pv 0)) (pa_mks (c := (Cs 6, eF 6)) (pe_mkN (G.one 6 (by decide)) hr (by rfl) (pv 0)) (pa_mks (c := (Cs 7, eF 7)) (pe_mkN (G.one 7 (by decide)) hr (by rfl) (pv 0)) pa_mks0)))) mks_mono)
    (pss_cons (ps_ext (i := 1) (pv 1) (pa_mks (c := (Cs 8, eF 8)) (pe_mkN (G.one 8 (by decide)) hr (by rfl) (pv 0)) (pa_mks (c := (Cs 9, eF 9)) (pe_mkN (G.one 9 (by decide)) hr (by rfl) (pv 0)) (pa_mks (c := (Cs 10, eF 10)) (pe_mkN (G.one 10 (by decide)) hr (by rfl) (pv 0)) (pa_mks (c := (Cs 11, eF 11)) (pe_mkN (G.one 11 (by decide)) hr (by rfl) (pv 0)) pa_mks0)))) mks_mono)
    (pss_cons (ps_ext (i := 1) (pv 1) (pa_mks (c := (Cs 12, eF 12)) (pe_mkN (G.one 12 (by decide)) hr (by rfl) (pv 0)) (pa_mks (c := (Cs 13, eF 13)) (pe_mkN (G.one 13 (by decide)) hr (by rfl) (pv 0)) (pa_mks (c := (Cs 14, eF 14)) (pe_mkN (G.one 14 (by decide)) hr (by rfl) (pv 0)) (pa_mks (c := (Cs 15, eF 15)) (pe_mkN (G.one 15 (by decide)) hr (by rfl) (pv 0)) pa_mks0)))) mks_mono)
    (pss_cons (ps_ext (i := 1) (pv 1) (pa_mks (c := (Cs 16, eF 16)) (pe_mk0 (i := 0) G.last hr (by rfl)) pa_mks0) mks_mono)
    (pss_one (ps_ret (pv 1))))))))), ?_⟩
  refine ⟨Nat.zero_le _, fun p hp => ?_⟩
  have S0 := same_new hp (.lst [])
  have e0 : upd H p (.lst []) p = some (.lst ([] : List V)) := upd_same
  refine ⟨p, _, rfl, e0, v, rfl, fun as1 G1 s1 m1 => ⟨_, s1 _ _ e0, ?_, fun H1 o1 e1 => ?_⟩⟩
  · have := m1.len
    simp only [List.length_append, List.length_map, List.length_cons, List.length_nil] at *
    omega
  have S1 : Same H H1 := o1.same (S0.trans s1) hp
  have L1 := m1.len
  have M1 := m1.off o1 (s1 _ _ e0)
  refine ⟨p, _, rfl, e1, v, rfl, fun as2 G2 s2 m2 => ⟨_, s2 _ _ e1, ?_, fun H2 o2 e2 => ?_⟩⟩
  · have := m2.len
    simp only [List.length_append, List.length_map, List.length_cons, List.length_nil] at *
    omega
  have S2 : Same H H2 := o2.same (S1.trans s2) hp
  have L2 := m2.len
  have M2 := ((M1.same s2).off o2 (s2 _ _ e1)).app (m2.off o2 (s2 _ _ e1))
  refine ⟨p, _, rfl, e2, v, rfl, fun as3 G3 s3 m3 => ⟨_, s3 _ _ e2, ?_, fun H3 o3 e3 => ?_⟩⟩
  · have := m3.len
    simp only [List.length_append, List.length_map, List.length_cons, List.length_nil] at *
    omega
  have S3 : Same H H3 := o3.same (S2.trans s3) hp
  have L3 := m3.len
  have M3 := ((M2.same s3).off o3 (s3 _ _ e2)).app (m3.off o3 (s3 _ _ e2))
  refine ⟨p, _, rfl, e3, v, rfl, fun as4 G4 s4 m4 => ⟨_, s4 _ _ e3, ?_, fun H4 o4 e4 => ?_⟩⟩
  · have := m4.len
    simp only [List.length_append, List.length_map, List.length_cons, List.length_nil] at *
    omega
  have S4 : Same H H4 := o4.same (S3.trans s4) hp
  have L4 := m4.len
  have M4 := ((M3.same s4).off o4 (s4 _ _ e3)).app (m4.off o4 (s4 _ _ e3))
  refine ⟨p, _, rfl, e4, v, rfl, fun as5 G5 s5 m5 => ⟨_, s5 _ _ e4, ?_, fun H5 o5 e5 => ?_⟩⟩
  · have := m5.len
    simp only [List.length_append, List.length_map, List.length_cons, List.length_nil] at *
    omega
  have S5 : Same H H5 := o5.same (S4.trans s5) hp
  have L5 := m5.len
  have M5 := ((M4.same s5).off o5 (s5 _ _ e4)).app (m5.off o5 (s5 _ _ e4))
  refine ⟨_, rfl, q p ((((as1 ++ as2) ++ as3) ++ as4) ++ as5) H5 S5 ?_ M5⟩
  rw [e5]
  simp
theorem ok_carried (F : Fun K "_law_carried" "_law_carried" sCarried f fd) (G : Errs P w K mg base B Cs) : FnOk P w K mg base CX0 1 f fd ["made"] (spCarried Cs) := by
  refine F.ok scCarried (fun vs H Q E h => ?_) (fun cdv A outer s H vs Q E hr h => ?_)
  · obtain ⟨l, as, v, rfl, _⟩ := h
    rfl
  obtain ⟨l, as, v, rfl, hl, hm, q⟩ := h
  refine ⟨_, (pss_cons (ps_set (i := 1) scCarried.nd rfl (Or.inl rfl) (pe_lst pa_nil))
    (pss_cons (ps_ext (i := 1) (pv 1) (pa_mfs (pe_mf 0 G (pv 0) (fun _ _ => rfl)) (pa_mfs (pe_mf 1 G (pv 0) (fun _ _ => rfl)) (pa_mfs (pe_mf 2 G (pv 0) (fun _ _ => rfl)) (pa_mfs (pe_mf 3 G (pv 0) (fun _ _ => rfl)) (pa_mfs (pe_mf 4 G (pv 0) (fun _ _ => rfl)) (pa_mfs (pe_mf 5 G (pv 0) (fun _ _ => rfl)) pa_mfs0)))))) mfs_mono)
    (pss_cons (ps_ext (i := 1) (pv 1) (pa_mfs (pe_mf 6 G (pv 0) (fun _ _ => rfl)) (pa_mfs (pe_mf 7 G (pv 0) (fun _ _ => rfl)) (pa_mfs (pe_mf 8 G (pv 0) (fun _ _ => rfl)) (pa_mfs (pe_mf 9 G (pv 0) (fun _ _ => rfl)) (pa_mfs (pe_mf 10 G (pv 0) (fun _ _ => rfl)) (pa_mfs (pe_mf 11 G (pv 0) (fun _ _ => rfl)) pa_mfs0)))))) mfs_mono)
    (pss_cons (ps_ext (i := 1) (pv 1) (pa_mfs (pe_mf 12 G (pv 0) (fun _ _ => rfl)) (pa_mfs (pe_mf 13 G (pv 0) (fun _ _ => rfl)) (pa_mfs (pe_mf 14 G (pv 0) (fun _ _ => rfl)) (pa_mfs (pe_mf 15 G (pv 0) (fun _ _ => rfl)) pa_mfs0)))) mfs_mono)
    (pss_one (ps_ret (pv 1))))))), ?_⟩
  refine ⟨Nat.zero_le _, fun p hp => ?_⟩
  have S0 := same_new hp (.lst [])
  have e0 : upd H p (.lst []) p = some (.lst ([] : List V)) := upd_same
  have nlp : l ≠ p := ne_of_none hl hp
  have l0 := S0 _ _ hl
  have m0 := hm.same S0
  refine ⟨p, _, rfl, e0, l, as, v, rfl, l0, m0, _, e0, ?_, fun H1 o1 e1 => ?_⟩
  · simp only [List.length_append, List.length_replicate, List.length_nil]
    decide
  have S1 : Same H H1 := o1.same S0 hp
  have l1 := o1 _ _ nlp l0
  have m1 := m0.off o1 e0
  refine ⟨p, _, rfl, e1, l, as, v, rfl, l1, m1, _, e1, ?_, fun H2 o2 e2 => ?_⟩
  · simp only [List.length_append, List.length_replicate, List.length_nil]
    decide
  have S2 : Same H H2 := o2.same S1 hp
  have l2 := o2 _ _ nlp l1
  have m2 := m1.off o2 e1
  refine ⟨p, _, rfl, e2, l, as, v, rfl, l2, m2, _, e2, ?_, fun H3 o3 e3 => ?_⟩
  · simp only [List.length_append, List.length_replicate, List.length_nil]
    decide
  have S3 : Same H H3 := o3.same S2 hp
  have l3 := o3 _ _ nlp l2
  have m3 := m2.off o3 e2
  exact ⟨_, rfl, q p H3 S3 e3⟩
theorem ok_classes (F : Fun K "_law_classes" "_law_classes" sClasses f fd) (G : Errs P w K mg base B Cs) (mi : mg "isinstance" = none) : FnOk P w K mg base CX0 1 f fd ["error"] (spClasses (Zt Cs)) := by
  refine F.ok scClasses (fun vs H Q E h => ?_) (fun cdv A outer s H vs Q E hr h => ?_)
  · obtain ⟨a, c, rfl, _⟩ := h
    rfl
  obtain ⟨a, c, rfl, hc, hz, q⟩ := h
  have zs : ∀ H', Same H H' → Zt Cs H c a → Zt Cs H' c a := fun H' s z => z.imp (s _ _) fun ⟨f, v, t⟩ => ⟨f, v, t.same s⟩
  refine ⟨_, (pss_cons (ps_set (i := 1) scClasses.nd rfl (Or.inl rfl) (pe_lst pa_nil))
    (pss_cons (ps_ext (i := 1) (pv 1) (pa_iss (pe_isT 0 G (pv 0) (by rfl) (by rfl) mi) (pa_iss (pe_isT 1 G (pv 0) (by rfl) (by rfl) mi) (pa_iss (pe_isT 2 G (pv 0) (by rfl) (by rfl) mi) (pa_iss (pe_isT 3 G (pv 0) (by rfl) (by rfl) mi) pa_iss0)))) iss_mono)
    (pss_cons (ps_ext (i := 1) (pv 1) (pa_iss (pe_isT 4 G (pv 0) (by rfl) (by rfl) mi) (pa_iss (pe_isT 5 G (pv 0) (by rfl) (by rfl) mi) (pa_iss (pe_isT 6 G (pv 0) (by rfl) (by rfl) mi) (pa_iss (pe_isT 7 G (pv 0) (by rfl) (by rfl) mi) pa_iss0)))) iss_mono)
    (pss_cons (ps_ext (i := 1) (pv 1) (pa_iss (pe_isT 8 G (pv 0) (by rfl) (by rfl) mi) (pa_iss (pe_isT 9 G (pv 0) (by rfl) (by rfl) mi) (pa_iss (pe_isT 10 G (pv 0) (by rfl) (by rfl) mi) (pa_iss (pe_isT 11 G (pv 0) (by rfl) (by rfl) mi) pa_iss0)))) iss_mono)
    (pss_cons (ps_ext (i := 1) (pv 1) (pa_iss (pe_isT 12 G (pv 0) (by rfl) (by rfl) mi) (pa_iss (pe_isT 13 G (pv 0) (by rfl) (by rfl) mi) (pa_iss (pe_isT 14 G (pv 0) (by rfl) (by rfl) mi) (pa_iss (pe_isT 15 G (pv 0) (by rfl) (by rfl) mi) pa_iss0)))) iss_mono)
    (pss_cons (ps_ext (i := 1) (pv 1) (pa_iss (pe_isT 16 G (pv 0) (by rfl) (by rfl) mi) pa_iss0) iss_mono)
    (pss_one (ps_ret (pv 1))))))))), ?_⟩
  refine ⟨Nat.zero_le _, fun p hp => ?_⟩
  have S0 := same_new hp (.lst [])
  have e0 : upd H p (.lst []) p = some (.lst ([] : List V)) := upd_same
  refine ⟨p, _, rfl, e0, a, c, rfl, hc, zs _ S0 hz, _, e0, ?_, fun H1 o1 e1 => ?_⟩
  · simp only [List.length_append, List.length_map, List.length_cons, List.length_nil]
    decide
  have S1 : Same H H1 := o1.same S0 hp
  refine ⟨p, _, rfl, e1, a, c, rfl, hc, zs _ S1 hz, _, e1, ?_, fun H2 o2 e2 => ?_⟩
  · simp only [List.length_append, List.length_map, List.length_cons, List.length_nil]
    decide
  have S2 : Same H H2 := o2.same S1 hp
  refine ⟨p, _, rfl, e2, a, c, rfl, hc, zs _ S2 hz, _, e2, ?_, fun H3 o3 e3 => ?_⟩
  · simp only [List.length_append, List.length_map, List.length_cons, List.length_nil]
    decide
  have S3 : Same H H3 := o3.same S2 hp
  refine ⟨p, _, rfl, e3, a, c, rfl, hc, zs _ S3 hz, _, e3, ?_, fun H4 o4 e4 => ?_⟩
  · simp only [List.length_append, List.length_map, List.length_cons, List.length_nil]
    decide
  have S4 : Same H H4 := o4.same S3 hp
  refine ⟨p, _, rfl, e4, a, c, rfl, hc, zs _ S4 hz, _, e4, ?_, fun H5 o5 e5 => ?_⟩
  · simp only [List.length_append, List.length_map, List.length_cons, List.length_nil]
    decide
  have S5 : Same H H5 := o5.same S4 hp
  exact ⟨_, rfl, q p H5 S5 e5⟩
theorem ok_classesP (F : Fun K "_law_classes" "_law_classes" sClasses f fd) (G : Errs P w K mg base B Cs) (mi : mg "isinstance" = none) : FnHp P w K mg base CX0 1 f fd ["error"] (fun pp => spClasses (Zp Cs pp)) := by
  refine fn_ofHp F scClasses (fun pp vs H Q E h => ?_) (fun cdv A outer s H vs Q E pp hr h => ?_)
  · obtain ⟨a, c, rfl, _⟩ := h
    rfl
  obtain ⟨a, c, rfl, hc, hz, q⟩ := h
  have zs : ∀ H', Same H H' → Zp Cs pp H c a → Zp Cs pp H' c a := fun H' s z => ⟨z.1, z.2.1, z.2.2.1, z.2.2.2.imp id fun ⟨dd, fs, e, t⟩ => ⟨dd, fs, e, s _ _ t⟩⟩
  have hp : pp ∈ (cxH CX0 P w K mg base ["error", "found"] "_law_classes" (defScope sClasses) f cdv A outer s H E pp).pn := List.mem_cons_self
  refine ⟨_, (pss_cons (ps_set (i := 1) scClasses.nd rfl (Or.inl rfl) (pe_lst pa_nil))
    (pss_cons (ps_ext (i := 1) (pv 1) (pa_iss (pe_isP 0 hp G (pv 0) (by rfl) (by rfl) mi) (pa_iss (pe_isP 1 hp G (pv 0) (by rfl) (by rfl) mi) (pa_iss (pe_isP 2 hp G (pv 0) (by rfl) (by rfl) mi) (pa_iss (pe_isP 3 hp G (pv 0) (by rfl) (by rfl) mi) pa_iss0)))) iss_mono)
    (pss_cons (ps_ext (i := 1) (pv 1) (pa_iss (pe_isP 4 hp G (pv 0) (by rfl) (by rfl) mi) (pa_iss (pe_isP 5 hp G (pv 0) (by rfl) (by rfl) mi) (pa_iss (pe_isP 6 hp G (pv 0) (by rfl) (by rfl) mi) (pa_iss (pe_isP 7 hp G (pv 0) (by rfl) (by rfl) mi) pa_iss0)))) iss_mono)
    (pss_cons (ps_ext (i := 1) (pv 1) (pa_iss (pe_isP 8 hp G (pv 0) (by rfl) (by rfl) mi) (pa_iss (pe_isP 9 hp G (pv 0) (by rfl) (by rfl) mi) (pa_iss (pe_isP 10 hp G (pv 0) (by rfl) (by rfl) mi) (pa_iss (pe_isP 11 hp G (pv 0) (by rfl) (by rfl) mi) pa_iss0)))) iss_mono)
    (pss_cons (ps_ext (i := 1) (pv 1) (pa_iss (pe_isP 12 hp G (pv 0) (by rfl) (by rfl) mi) (pa_iss (pe_isP 13 hp G (pv 0) (by rfl) (by rfl) mi) (pa_iss (pe_isP 14 hp G (pv 0) (by rfl) (by rfl) mi) (pa_iss (pe_isP 15 hp G (pv 0) (by rfl) (by rfl) mi) pa_iss0)))) iss_mono)
    (pss_cons (ps_ext (i := 1) (pv 1) (pa_iss (pe_isP 16 hp G (pv 0) (by rfl) (by rfl) mi) pa_iss0) iss_mono)
    (pss_one (ps_ret (pv 1))))))))), ?_⟩
  refine ⟨Nat.zero_le _, fun p hp => ?_⟩
  have S0 := same_new hp (.lst [])
  have e0 : upd H p (.lst []) p = some (.lst ([] : List V)) := upd_same
  refine ⟨p, _, rfl, e0, a, c, rfl, hc, zs _ S0 hz, _, e0, ?_, fun H1 o1 e1 => ?_⟩
  · simp only [List.length_append, List.length_map, List.length_cons, List.length_nil]
    decide
  have S1 : Same H H1 := o1.same S0 hp
  refine ⟨p, _, rfl, e1, a, c, rfl, hc, zs _ S1 hz, _, e1, ?_, fun H2 o2 e2 => ?_⟩
  · simp only [List.length_append, List.length_map, List.length_cons, List.length_nil]
    decide
  have S2 : Same H H2 := o2.same S1 hp
  refine ⟨p, _, rfl, e2, a, c, rfl, hc, zs _ S2 hz, _, e2, ?_, fun H3 o3 e3 => ?_⟩
  · simp only [List.length_append, List.length_map, List.length_cons, List.length_nil]
    decide
  have S3 : Same H H3 := o3.same S2 hp
  refine ⟨p, _, rfl, e3, a, c, rfl, hc, zs _ S3 hz, _, e3, ?_, fun H4 o4 e4 => ?_⟩
  · simp only [List.length_append, List.length_map, List.length_cons, List.length_nil]
    decide
  have S4 : Same H H4 := o4.same S3 hp
  refine ⟨p, _, rfl, e4, a, c, rfl, hc, zs _ S4 hz, _, e4, ?_, fun H5 o5 e5 => ?_⟩
  · simp only [List.length_append, List.length_map, List.length_cons, List.length_nil]
    decide
  have S5 : Same H H5 := o5.same S4 hp
  exact ⟨_, rfl, q p H5 S5 e5⟩
end
end Zk

set_option maxHeartbeats 4000000
/-! D4: any drawn value, whatever the depth; an error is of its class and of no other. -/
namespace Zk
open PySem PySem.Spec PyProof.Rows L2
open PySem.W (findIn subIn typeIn keepIn excTail kitOne kitAny exmOne clsIn)
abbrev sIsOwn : Stmt := top 27
theorem bls_dp {K : PySem.W.Frag} {H : Hp} {a : Addr} {bs : List Bool} (h : H a = some (.lst (bs.map V.bl))) : Dp K H (.ref a) (.list (bs.map PyData.bool)) := by
  refine .lst (SqL.of h) ?_
  clear h
  induction bs with
  | nil => exact .nil
  | cons b r ih => exact .cons (.bl b) ih
theorem bls_lay : ∀ bs : List Bool, PyData.canLayAll0 (bs.map PyData.bool) = true
  | [] => by simp [PyData.canLayAll0]
  | b :: r => by simp [PyData.canLayAll0, PyData.canLay0, bls_lay r]
theorem bls_depth : ∀ bs : List Bool, PyData.depthAll (bs.map PyData.bool) = 0
  | [] => by simp [PyData.depthAll]
  | b :: r => by simp [PyData.depthAll, PyData.depth, bls_depth r]
theorem bls_shaped (bs : List Bool) : SeqAt.shaped (.list (bs.map PyData.bool)) = true := by
  simp [SeqAt.shaped, PyData.canLay0, bls_lay, PyData.depth, bls_depth]
theorem bls_eqvAll : ∀ bs : List Bool, PyData.eqvAll (bs.map PyData.bool) (bs.map PyData.bool) = true
  | [] => by simp [PyData.eqvAll]
  | b :: r => by simp [PyData.eqvAll, PyData.eqv, bls_eqvAll r]
theorem bls_eqv (bs : List Bool) : PyData.eqv (.list (bs.map PyData.bool)) (.list (bs.map PyData.bool)) = true := by
  simp [PyData.eqv, bls_eqvAll]
theorem yes_bls (c : Nat) : yes c = ((List.range 17).map fun j => decide (c = j)).map V.bl := by
  unfold yes
  rw [List.map_map]
  rfl
theorem one_yes (c n : Nat) : ((List.range n).map fun (j : Nat) => V.bl (decide (V.int (j : Int) = V.int (c : Int)))) = (List.range n).map fun j => V.bl (decide (c = j)) := by
  refine List.map_congr_left fun j _ => ?_
  congr 1
  have : (V.int (j : Int) = V.int (c : Int)) ↔ c = j := ⟨fun h => by have := V.int.inj h; omega, fun h => by rw [h]⟩
  simp only [this]
theorem more_range {α : Type} (f : Nat → α) (n : Nat) : (List.range (n + 1)).map f = (List.range n).map f ++ [f n] := by
  rw [List.range_succ, List.map_append]
  rfl
def spIsOwn (Cs : Nat → Addr) : Sp := fun vs H Q _ => ∃ (a : Addr) (c : Nat), vs = [.int (c : Int), .ref a] ∧ c < 17 ∧ Zt Cs H c a ∧ ∀ H', Same H H' → Q (.bl true) H'
/-- the built-in kinds of errors that the law names are the built-in ones -/
structure Kinds (mg : Str → Option Value) : Prop where
  isi : mg "isinstance" = none
  ex : mg "Exception" = none
  k1 : mg "ValueError" = none
  k2 : mg "TypeError" = none
  k3 : mg "LookupError" = none
  k4 : mg "ArithmeticError" = none
  k5 : mg "RuntimeError" = none
  k6 : mg "AttributeError" = none
section
variable {P : Program} {w : World} {K : PySem.W.Frag} {mg : Str → Option Value} {base : Heap} {f B : Addr} {fd : FuncData} {Cs : Nat → Addr}
theorem any_all (F : Fun K "_law_any" "_law_any" sAny f fd) (T : Blt mg) (bF : Binds K fd ["deck", "deep"] []) (mF : mg "_law_any" = some (.ref f)) (C1 : Call1 P w K mg base "_law_draw" 1 ["deck", "many"] spDraw) (C2 : Call1 P w K mg base "_law_pick" 2 ["deck", "some"] spPick) :
    ∀ n, FnOk P w K mg base CX0 (n + 4) f fd ["deck", "deep"] (spAny n)
  | 0 => ok_any (n := 0) F T bF mF C1 C2 ⟨fun _ _ _ _ h => absurd h.1 (Nat.lt_irrefl 0), fun _ _ _ _ _ _ _ _ _ _ _ _ _ h => absurd h.1 (Nat.lt_irrefl 0)⟩
  | n + 1 => ok_any (n := n + 1) F T bF mF C1 C2 ((any_all F T bF mF C1 C2 n).imp fun _ _ _ _ h => h.2)
theorem kinds_none {C : Addr} {x : Str} (a : ErrC K mg B x C) : kitAny K (.ref C) [.type "ValueError", .type "TypeError", .type "LookupError", .type "ArithmeticError", .type "RuntimeError", .type "AttributeError"] = some false := by
  have h : ∀ T ∈ ["ValueError", "TypeError", "LookupError", "ArithmeticError", "RuntimeError", "AttributeError"], kitOne K (.ref C) (.type T) = some false := by
    intro T hT
    simp only [List.mem_cons, List.not_mem_nil, or_false] at hT
    rcases hT with rfl | rfl | rfl | rfl | rfl | rfl <;> exact kit_type a (by decide +kernel) (by decide +kernel)
  simp only [kitAny, h _ (by simp : "ValueError" ∈ _), h _ (by simp : "TypeError" ∈ _), h _ (by simp : "LookupError" ∈ _), h _ (by simp : "ArithmeticError" ∈ _), h _ (by simp : "RuntimeError" ∈ _), h _ (by simp : "AttributeError" ∈ _)]
theorem scIsOwn : FnScope ["at", "error", "place"] ["at", "error"] (defScope sIsOwn) := ⟨rfl, rfl, rfl, by decide +kernel, rfl, by decide +kernel, by decide +kernel⟩
theorem ok_isOwn (F : Fun K "_law_is_own" "_law_is_own" sIsOwn f fd) (G : Errs P w K mg base B Cs) (T : Kinds mg) (Tb : Blt mg) (C : Call1 P w K mg base "_law_classes" 1 ["error"] (spClasses (Zt Cs))) : FnOk P w K mg base CX0 2 f fd ["at", "error"] (spIsOwn Cs) := by
  obtain ⟨g, gd, GC, bG, kG, mG⟩ := C.ex
  refine F.ok scIsOwn (fun vs H Q E h => ?_) (fun cdv A outer s H vs Q E hr h => ?_)
  · obtain ⟨a, c, rfl, _⟩ := h
    rfl
  obtain ⟨a, c, rfl, hc, hz, q⟩ := h
  refine ⟨_, pss_cons (ps_if (PW.pt (pw_or (pt_not (pt_val (pe_callB call_isErr (by rfl) T.isi PyProof.Rows.boot_isinstance (pa_cons (pv 1) (pa_cons (pe_glob (v := .ref B) (by rfl) G.bs.gB (show Value.ref B = Value.ref B from rfl)) pa_nil)))))
      (pw_or1 (pt_not (pt_val (pe_callB call_isErr (by rfl) T.isi PyProof.Rows.boot_isinstance (pa_cons (pv 1) (pa_cons (pe_bltn (v := .ty "Exception") (by rfl) T.ex (by decide +kernel) (show Value.type "Exception" = Value.type "Exception" from rfl)) pa_nil))))))))
      (pss_one (ps_ret pe_bl)) pss_nil)
    (pss_cons (ps_if (pt_val (pe_callB call_isErrT (by rfl) T.isi PyProof.Rows.boot_isinstance (pa_cons (pv 1) (pa_cons (pe_tup
      (pa_cons (pe_bltn (v := .ty "ValueError") (by rfl) T.k1 (by decide +kernel) (show Value.type "ValueError" = Value.type "ValueError" from rfl))
      (pa_cons (pe_bltn (v := .ty "TypeError") (by rfl) T.k2 (by decide +kernel) (show Value.type "TypeError" = Value.type "TypeError" from rfl))
      (pa_cons (pe_bltn (v := .ty "LookupError") (by rfl) T.k3 (by decide +kernel) (show Value.type "LookupError" = Value.type "LookupError" from rfl))
      (pa_cons (pe_bltn (v := .ty "ArithmeticError") (by rfl) T.k4 (by decide +kernel) (show Value.type "ArithmeticError" = Value.type "ArithmeticError" from rfl))
      (pa_cons (pe_bltn (v := .ty "RuntimeError") (by rfl) T.k5 (by decide +kernel) (show Value.type "RuntimeError" = Value.type "RuntimeError" from rfl))
      (pa_cons (pe_bltn (v := .ty "AttributeError") (by rfl) T.k6 (by decide +kernel) (show Value.type "AttributeError" = Value.type "AttributeError" from rfl)) pa_nil))))))) pa_nil))))
      (pss_one (ps_ret pe_bl)) pss_nil)
    (pss_one (ps_ret (pe_cmpR (op_eqD hr.units) (pe_call GC hr rfl mG kG bG .nil pass0 (pa_cons (pv 1) pa_nil))
      (pe_lc (own := [("place", 2)]) (g := gName 2) (tt := tYes) rfl scIsOwn.nd (pi_range1 (by rfl) Tb.range (pa_cons pe_int pa_nil))
          (blkOk_by (N := ["at", "error", "place"]) (sc := defScope sIsOwn) (by decide +kernel)) (fun _ _ _ _ _ => pg_name (i := 2) scIsOwn.nd rfl (Or.inl rfl)) (fun _ _ _ _ _ => pts_nil)
          (fun _ _ _ _ _ => pe_cmpR op_eq (pv 2) (pv 0) (nomark _))) (nomark _))))), ?_⟩
  have O := (G.err hc).own
  refine ⟨_, rfl, a, Cs c, _, _, true, rfl, ClsV.own _, O, G.gk, hz, G.kitB hc, true, rfl, ?_⟩
  refine iteF ?_
  refine ⟨_, rfl, a, Cs c, _, _, true, rfl, ClsV.ty _, O, G.gk, hz, kit_type (G.err hc) (by decide +kernel) (by decide +kernel), true, rfl, ?_⟩
  refine iteF ?_
  refine ⟨_, rfl, (by show 6 ≤ sizeLine; decide), fun t ht => ⟨a, Cs c, t, _, _, false, rfl, upd_same, .cons (.ty _) (.cons (.ty _) (.cons (.ty _) (.cons (.ty _) (.cons (.ty _) (.cons (.ty _) .nil))))), O, G.gk, ?_, kinds_none (G.err hc), false, rfl, ?_⟩⟩
  · exact hz.imp (same_new ht _ _ _) fun ⟨f, v, z⟩ => ⟨f, v, z.same (same_new ht _)⟩
  refine iteF ?_
  have s0 : Same H (upd H t (.tup [.ty "ValueError", .ty "TypeError", .ty "LookupError", .ty "ArithmeticError", .ty "RuntimeError", .ty "AttributeError"])) := same_new ht _
  refine ⟨_, rfl, a, c, rfl, hc, hz.imp (s0 _ _) fun ⟨f, v, z⟩ => ⟨f, v, z.same s0⟩, fun r H1 s1 e1 => ?_⟩
  refine ⟨17, rfl, by decide, by decide, fun D hD => ?_⟩
  have nrD : r ≠ D := ne_of_none e1 hD
  refine lc_range (lo := 0) (n := 17) (fun i H' => H' = upd H1 D (.lst ((List.range i).map fun (j : Nat) => V.bl (decide (V.int (j : Int) = V.int (c : Int)))))) rfl ?_ ?_
  · rintro i H' hi rfl
    refine ⟨rfl, ?_⟩
    dsimp only [tYes]
    refine iteT ?_
    refine ⟨_, rfl, _, rfl, rfl, ?_⟩
    refine ⟨_, upd_same, sl_lt (by rw [List.length_map, List.length_range]; omega), ?_⟩
    rw [upd_upd, more_range, Int.zero_add]
  · rintro H' rfl
    have eD := one_yes c 17
    refine ⟨_, _, bls_dp (bs := (List.range 17).map fun j => decide (c = j)) ?_, bls_dp (bs := (List.range 17).map fun j => decide (c = j)) ?_, bls_shaped _, bls_shaped _, ?_⟩
    · rw [← yes_bls]
      exact (upd_ne nrD).trans e1
    · rw [← yes_bls, upd_same, eD]
      rfl
    · rw [bls_eqv]
      exact q _ (s0.trans (s1.trans (same_new hD _)))
end
end Zk

set_option maxHeartbeats 4000000
/-! D5: each class raised, and caught. -/
namespace Zk
open PySem PySem.Spec PyProof.Rows L2
open PySem.W (findIn subIn typeIn keepIn excTail kitOne kitAny exmOne clsIn)
abbrev sRaise : Stmt := top 28
abbrev sCaught : Stmt := top 29
abbrev sCaughtB : Stmt := top 30
/-- the dict of an error in flight -/
def XdAt (H : Hp) (f : Option Str) (v : V) (d : Option Addr) : Prop := match f with
  | some f => ∃ a, d = some a ∧ H a = some (.xd [(f, v)])
  | none => d = none
theorem XdAt.same {H H' : Hp} (s : Same H H') {f : Option Str} {v : V} {d : Option Addr} (h : XdAt H f v d) : XdAt H' f v d := by
  cases f with
  | none => exact h
  | some f =>
    obtain ⟨a, e, h⟩ := h
    exact ⟨a, e, s _ _ h⟩
/-- raise C(..) of the value in slot i -/
def tRs (C : Addr) (f : Option Str) (i : Nat) : L2.St → Hp → XK → Prop := fun σ H Q => ∃ v, σ[i]? = some (some v) ∧ ∀ d H', Same H H' → XdAt H' f v d → Q (.ref C) d H'
theorem rs_read {H1 : Hp} {C : Addr} {f : Str} {v : V} {Q : XK} (q : ∀ d H', Same H1 H' → XdAt H' (some f) v d → Q (.ref C) d H') : ∀ a, H1 a = none → spInit C f [.ref a, v] (upd H1 a (exo a C none)) (made C H1 a Q) E0 := by
  intro a na
  refine ⟨a, v, rfl, upd_same, fun dx hd ne => ⟨rfl, dx, [(f, v)], upd_same, ?_, (upd_ne ne).symm.trans hd, q (some dx) _ (fun b o e => ?_) ⟨dx, rfl, upd_same⟩⟩⟩
  · rw [upd_ne ne, upd_same]
  · have nb : b ≠ a := fun z => by rw [z, na] at e; cases e
    have nd : b ≠ dx := ne_of_none e ((upd_ne ne).symm.trans hd)
    rw [upd_ne nd, del_ne nb, upd_ne nb, upd_ne nd, upd_ne nb]
    exact e
section
variable {X : Cx} {x y f : Str} {B C : Addr} {p p2 pos kpos : Pos} {i : Nat}
theorem pmk_P (G : ErrM X.prog X.w X.K X.mg X.base B x f C) (hr : Room 2 X.A) (hg : Gl X x) (he : PE X (.Name y p2) (tVar i)) (hdb : (x == ("__debug__" : Str)) = false := by decide +kernel) : L2.PMk X (.Call (.Name x p) [.Name y p2] [] pos) (tRs C (some f) i) := by
  obtain ⟨fI, fd, iC, tI, F1, b1, _⟩ := G.ini
  refine fun pins s σ H Q I h => pmk_err G.err.own iC tI F1 hr b1 hg G.err.gC (pa_cons he pa_nil) hdb rfl rfl pins s σ H Q I ?_
  obtain ⟨v, hv, q⟩ := h
  exact ⟨v, hv, rfl, by decide, rs_read q⟩
theorem pmk_N (G : ErrM X.prog X.w X.K X.mg X.base B x f C) (hr : Room 2 X.A) (hg : Gl X x) (he : PE X (.Name y p2) (tVar i)) (hdb : (x == ("__debug__" : Str)) = false := by decide +kernel) : L2.PMk X (.Call (.Name x p) [] [⟨some f, .Name y p2, kpos⟩] pos) (tRs C (some f) i) := by
  obtain ⟨fI, fd, iC, tI, F1, _, b1⟩ := G.ini
  refine fun pins s σ H Q I h => pmk_errK G.err.own iC tI F1 hr b1 hg G.err.gC (pk_cons he pk_nil) rfl rfl hdb rfl pins s σ H Q I ?_
  obtain ⟨v, hv, q⟩ := h
  exact ⟨v, hv, rfl, rs_read q⟩
theorem pmk_0 (G : ErrM0 X.prog X.w X.K X.mg X.base B x C) (hr : Room 2 X.A) (hg : Gl X x) (hdb : (x == ("__debug__" : Str)) = false := by decide +kernel) : L2.PMk X (.Call (.Name x p) [] [] pos) (tRs C none i) := by
  obtain ⟨fI, fd, iC, tI, F1, b1⟩ := G.ini
  refine fun pins s σ H Q I h => pmk_err0 G.err.own iC tI F1 hr b1 hg G.err.gC hdb pins s σ H Q I ?_
  obtain ⟨v, hv, q⟩ := h
  refine fun a na => ⟨a, rfl, upd_same, rfl, upd_same, q none _ (fun b o e => ?_) rfl⟩
  have nb : b ≠ a := fun z => by rw [z, na] at e; cases e
  rw [del_ne nb, upd_ne nb]
  exact e
end
def spRaise (Cs : Nat → Addr) : Sp := fun vs H Q E => ∃ (c : Nat) (v : V), vs = [.int (c : Int), v] ∧ c < 17 ∧ ∀ d H', Same H H' → XdAt H' (eF c) v d → E (.ref (Cs c)) d H'
theorem at_num {c k : Nat} (e : decide (V.int (c : Int) = V.int (k : Int)) = true) : c = k := by
  have := V.int.inj (of_decide_eq_true e)
  omega
theorem no_num {c k : Nat} (e : ¬ decide (V.int (c : Int) = V.int (k : Int)) = true) : ¬ c = k := fun z => e (by rw [z]; exact decide_eq_true rfl)
section
variable {P : Program} {w : World} {K : PySem.W.Frag} {mg : Str → Option Value} {base : Heap} {f B : Addr} {fd : FuncData} {Cs : Nat → Addr}
theorem scRaise : FnScope ["way", "it"] ["way", "it"] (defScope sRaise) := ⟨rfl, rfl, rfl, by decide +kernel, rfl, by decide +kernel, by decide +kernel⟩
theorem ok_raise (F : Fun K "_law_raise" "_law_raise" sRaise f fd) (G : Errs P w K mg base B Cs) : FnOk P w K mg base (L2.CX P w) 3 f fd ["way", "it"] (spRaise Cs) := by
  refine F.okX scRaise (fun vs H Q E h => ?_) (fun cdv A outer s H vs Q E hr h => ?_)
  · obtain ⟨c, v, rfl, _⟩ := h
    rfl
  obtain ⟨c, v, rfl, hc, q⟩ := h
  refine ⟨_, pss_cons (ps_if (pt_cmpR op_eq (pv 0) pe_int (nomark _)) (pss_one (ps_raise rfl (takes_of rfl rfl rfl rfl) (pmk_P (G.one 0 (by decide)) hr (by rfl) (pv 1)))) pss_nil)
    (pss_cons (ps_if (pt_cmpR op_eq (pv 0) pe_int (nomark _)) (pss_one (ps_raise rfl (takes_of rfl rfl rfl rfl) (pmk_N (G.one 1 (by decide)) hr (by rfl) (pv 1)))) pss_nil)
    (pss_cons (ps_if (pt_cmpR op_eq (pv 0) pe_int (nomark _)) (pss_one (ps_raise rfl (takes_of rfl rfl rfl rfl) (pmk_P (G.one 2 (by decide)) hr (by rfl) (pv 1)))) pss_nil)
    (pss_cons (ps_if (pt_cmpR op_eq (pv 0) pe_int (nomark _)) (pss_one (ps_raise rfl (takes_of rfl rfl rfl rfl) (pmk_N (G.one 3 (by decide)) hr (by rfl) (pv 1)))) pss_nil)
    (pss_cons (ps_if (pt_cmpR op_eq (pv 0) pe_int (nomark _)) (pss_one (ps_raise rfl (takes_of rfl rfl rfl rfl) (pmk_P (G.one 4 (by decide)) hr (by rfl) (pv 1)))) pss_nil)
    (pss_cons (ps_if (pt_cmpR op_eq (pv 0) pe_int (nomark _)) (pss_one (ps_raise rfl (takes_of rfl rfl rfl rfl) (pmk_N (G.one 5 (by decide)) hr (by rfl) (pv 1)))) pss_nil)
    (pss_cons (ps_if (pt_cmpR op_eq (pv 0) pe_int (nomark _)) (pss_one (ps_raise rfl (takes_of rfl rfl rfl rfl) (pmk_P (G.one 6 (by decide)) hr (by rfl) (pv 1)))) pss_nil)
    (pss_cons (ps_if (pt_cmpR op_eq (pv 0) pe_int (nomark _)) (pss_one (ps_raise rfl (takes_of rfl rfl rfl rfl) (pmk_N (G.one 7 (by decide)) hr (by rfl) (pv 1)))) pss_nil)
    (pss_cons (ps_if (pt_cmpR op_eq (pv 0) pe_int (nomark _)) (pss_one (ps_raise rfl (takes_of rfl rfl rfl rfl) (pmk_P (G.one 8 (by decide)) hr (by rfl) (pv 1)))) pss_nil)
    (pss_cons (ps_if (pt_cmpR op_eq (pv 0) pe_int (nomark _)) (pss_one (ps_raise rfl (takes_of rfl rfl rfl rfl) (pmk_N (G.one 9 (by decide)) hr (by rfl) (pv 1)))) pss_nil)
    (pss_cons (ps_if (pt_cmpR op_eq (pv 0) pe_int (nomark _)) (pss_one (ps_raise rfl (takes_of rfl rfl rfl rfl) (pmk_P (G.one 10 (by decide)) hr (by rfl) (pv 1)))) pss_nil)
    (pss_cons (ps_if (pt_cmpR op_eq (pv 0) pe_int (nomark _)) (pss_one (ps_raise rfl (takes_of rfl rfl rfl rfl) (pmk_N (G.one 11 (by decide)) hr (by rfl) (pv 1)))) pss_nil)
    (pss_cons (ps_if (pt_cmpR op_eq (pv 0) pe_int (nomark _)) (pss_one (ps_raise rfl (takes_of rfl rfl rfl rfl) (pmk_P (G.one 12 (by decide)) hr (by rfl) (pv 1)))) pss_nil)
    (pss_cons (ps_if (pt_cmpR op_eq (pv 0) pe_int (nomark _)) (pss_one (ps_raise rfl (takes_of rfl rfl rfl rfl) (pmk_N (G.one 13 (by decide)) hr (by rfl) (pv 1)))) pss_nil)
    (pss_cons (ps_if (pt_cmpR op_eq (pv 0) pe_int (nomark _)) (pss_one (ps_raise rfl (takes_of rfl rfl rfl rfl) (pmk_P (G.one 14 (by decide)) hr (by rfl) (pv 1)))) pss_nil)
    (pss_cons (ps_if (pt_cmpR op_eq (pv 0) pe_int (nomark _)) (pss_one (ps_raise rfl (takes_of rfl rfl rfl rfl) (pmk_N (G.one 15 (by decide)) hr (by rfl) (pv 1)))) pss_nil)
    (pss_one (ps_raise rfl (takes_of rfl rfl rfl rfl) (pmk_0 (i := 1) G.last hr (by rfl))))))))))))))))))), ?_⟩
  refine ⟨_, rfl, rfl, _, rfl, ite2 (fun e => ?_) (fun e0 => ?_)⟩
  · obtain rfl := at_num (k := 0) e
    exact ⟨v, rfl, q⟩
  refine ⟨_, rfl, rfl, _, rfl, ite2 (fun e => ?_) (fun e1 => ?_)⟩
  · obtain rfl := at_num (k := 1) e
    exact ⟨v, rfl, q⟩
  refine ⟨_, rfl, rfl, _, rfl, ite2 (fun e => ?_) (fun e2 => ?_)⟩
  · obtain rfl := at_num (k := 2) e
    exact ⟨v, rfl, q⟩
  refine ⟨_, rfl, rfl, _, rfl, ite2 (fun e => ?_) (fun e3 => ?_)⟩
  · obtain rfl := at_num (k := 3) e
    exact ⟨v, rfl, q⟩
  refine ⟨_, rfl, rfl, _, rfl, ite2 (fun e => ?_) (fun e4 => ?_)⟩
  · obtain rfl := at_num (k := 4) e
    exact ⟨v, rfl, q⟩
  refine ⟨_, rfl, rfl, _, rfl, ite2 (fun e => ?_) (fun e5 => ?_)⟩
  · obtain rfl := at_num (k := 5) e
    exact ⟨v, rfl, q⟩
  refine ⟨_, rfl, rfl, _, rfl, ite2 (fun e => ?_) (fun e6 => ?_)⟩
  · obtain rfl := at_num (k := 6) e
    exact ⟨v, rfl, q⟩
  refine ⟨_, rfl, rfl, _, rfl, ite2 (fun e => ?_) (fun e7 => ?_)⟩
  · obtain rfl := at_num (k := 7) e
    exact ⟨v, rfl, q⟩
  refine ⟨_, rfl, rfl, _, rfl, ite2 (fun e => ?_) (fun e8 => ?_)⟩
  · obtain rfl := at_num (k := 8) e
    exact ⟨v, rfl, q⟩
  refine ⟨_, rfl, rfl, _, rfl, ite2 (fun e => ?_) (fun e9 => ?_)⟩
  · obtain rfl := at_num (k := 9) e
    exact ⟨v, rfl, q⟩
  refine ⟨_, rfl, rfl, _, rfl, ite2 (fun e => ?_) (fun e10 => ?_)⟩
  · obtain rfl := at_num (k := 10) e
    exact ⟨v, rfl, q⟩
  refine ⟨_, rfl, rfl, _, rfl, ite2 (fun e => ?_) (fun e11 => ?_)⟩
  · obtain rfl := at_num (k := 11) e
    exact ⟨v, rfl, q⟩
  refine ⟨_, rfl, rfl, _, rfl, ite2 (fun e => ?_) (fun e12 => ?_)⟩
  · obtain rfl := at_num (k := 12) e
    exact ⟨v, rfl, q⟩
  refine ⟨_, rfl, rfl, _, rfl, ite2 (fun e => ?_) (fun e13 => ?_)⟩
  · obtain rfl := at_num (k := 13) e
    exact ⟨v, rfl, q⟩
  refine ⟨_, rfl, rfl, _, rfl, ite2 (fun e => ?_) (fun e14 => ?_)⟩
  · obtain rfl := at_num (k := 14) e
    exact ⟨v, rfl, q⟩
  refine ⟨_, rfl, rfl, _, rfl, ite2 (fun e => ?_) (fun e15 => ?_)⟩
  · obtain rfl := at_num (k := 15) e
    exact ⟨v, rfl, q⟩
  have z : c = 16 := by
    have := no_num (k := 0) e0
    have := no_num (k := 1) e1
    have := no_num (k := 2) e2
    have := no_num (k := 3) e3
    have := no_num (k := 4) e4
    have := no_num (k := 5) e5
    have := no_num (k := 6) e6
    have := no_num (k := 7) e7
    have := no_num (k := 8) e8
    have := no_num (k := 9) e9
    have := no_num (k := 10) e10
    have := no_num (k := 11) e11
    have := no_num (k := 12) e12
    have := no_num (k := 13) e13
    have := no_num (k := 14) e14
    have := no_num (k := 15) e15
    omega
  subst z
  exact ⟨v, rfl, q⟩
end
/-! ### caught -/
/-- the suite behind 'except' of the class j: it returns j and what the error carries -/
def tsC (Cs : Nat → Addr) (j : Nat) (a : Addr) (cls : Value) (d : Option Addr) : TS := fun D σ H => ∃ v, σ[2]? = some (some (.ref a)) ∧ cls = .ref (Cs j) ∧ XdAt H (eF j) v d ∧ ∀ t H', Same H H' → H' t = some (.tup [.int (j : Int), if j = 16 then .non else v]) → D.rt (.ref t) H'
theorem OwnE.xf {K : PySem.W.Frag} {C : Addr} (T : OwnE K C) : XfC K C := by
  refine ⟨T.ga, T.gg, T.exC, ?_⟩
  obtain ⟨cd, hcd, hd, _⟩ := T.cd
  unfold PySem.W.hasDictIn
  rw [hcd]
  exact hd
section
variable {X : Cx} {B : Addr} {Cs : Nat → Addr} {a : Addr} {oe : Obj} {cls : Value} {d : Option Addr} {pn : List (Addr × Obj)} {u u2 : Nat} {p1 p2 p3 p4 p5 p6 p7 p8 p9 p10 p11 : Pos} {f y : Str} {ji : Int}
theorem pss_tsC (j : Nat) (G : Errs X.prog X.w X.K X.mg X.base B Cs) (hz : Zc cls d oe) (hf : ∃ vs, oe.data = .fields vs) (he : PE (X.suite a ((a, oe) :: pn)) (.Name y p1) (tVar 2)) (hj : j < 16 := by decide) (hji : ji = (j : Int) := by rfl) (hfj : fE j = f := by rfl) (ej : eF j = some (fE j) := by rfl) :
    PSs (X.suite a ((a, oe) :: pn)) [.Return (some (.Tuple [.Constant (.int ji) u p2, .Attribute (.Name y p1) f p3] u2 p4)) p5] (tsC Cs j a cls d) := by
  subst hji
  subst hfj
  have O := G.one j hj
  refine ⟨fun pins s σ H D I h => (pss_one (ps_ret (pe_tup (pa_cons pe_int (pa_cons (pe_xf O.err.own.xf O.no hz hf he) pa_nil))))).run pins s σ H D I ?_⟩
  obtain ⟨v, hv, hc, hx, q⟩ := h
  rw [ej] at hx
  obtain ⟨dd, e1, e2⟩ := hx
  refine ⟨_, hv, rfl, hc, dd, _, v, e1, e2, by simp [List.lookup], (by show 2 ≤ sizeLine; decide), fun t ht => q t _ (same_new ht _) ?_⟩
  rw [upd_same, if_neg (by omega : ¬ j = 16)]
theorem pss_tsC16 (G : Errs X.prog X.w X.K X.mg X.base B Cs) (hz : Zc cls d oe) (hf : ∃ vs, oe.data = .fields vs) (he : PE (X.suite a ((a, oe) :: pn)) (.Name y p1) (tVar 2)) (hi : Gl X "isinstance") (mi : X.mg "isinstance" = none) (hb : Gl X "PlayError") :
    PSs (X.suite a ((a, oe) :: pn)) [.Return (some (.Tuple [.Constant (.int 16) u p2, .IfExp (.Call (.Name "isinstance" p3) [.Name y p1, .Name "PlayError" p4] [] p5) (.Constant .none u2 p6) (.Constant (.int 0) u2 p7) p8] u2 p9)) p10] (tsC Cs 16 a cls d) := by
  have hp : (a, oe) ∈ (X.suite a ((a, oe) :: pn)).pn := List.mem_cons_self
  refine ⟨fun pins s σ H D I h => (pss_one (ps_ret (pe_tup (pa_cons pe_int (pa_cons (pe_ifExp (pt_val (pe_callB (call_isP hp) hi mi PyProof.Rows.boot_isinstance (pa_cons he (pa_cons (pe_glob (v := .ref B) hb G.bs.gB (show Value.ref B = Value.ref B from rfl)) pa_nil)))) pe_non pe_int) pa_nil))))).run pins s σ H D I ?_⟩
  obtain ⟨v, hv, hc, hx, q⟩ := h
  have hd : d = none := hx
  refine ⟨_, hv, Cs 16, _, _, true, rfl, ClsV.own _, (G.err (by decide)).own, G.gk, hz.1.trans hc, hf, .inl (hz.2.trans hd), G.kitB (by decide), true, rfl, ?_⟩
  refine iteT ?_
  exact ⟨(by show 2 ≤ sizeLine; decide), fun t ht => q t _ (same_new ht _) upd_same⟩
end
section
variable {P : Program} {w : World} {K : PySem.W.Frag} {mg : Str → Option Value} {base : Heap} {f B : Addr} {fd : FuncData} {Cs : Nat → Addr}
/-- the clause of the class itself is the one that catches -/
theorem wAll_pick (G : Errs P w K mg base B Cs) {c i : Nat} (hc : c < 17) {Wout : WX} {D : Ends} {ts : Nat → Addr → Value → Option Addr → TS} {d : Option Addr} {σ : List (Option V)} {H : Hp} : ∀ js : List Nat, (∀ j ∈ js, j < 17) → c ∈ js →
    (∀ a, H a = none → ts c a (.ref (Cs c)) d { nx := fun σ' H' => D.nx (σ'.set i none) H', rt := D.rt, bk := fun σ' H' => D.bk (σ'.set i none) H', ct := fun σ' H' => D.ct (σ'.set i none) H' } (σ.set i (some (.ref a))) H) →
    wAll K i Wout D (js.map fun j => (Value.ref (Cs j), ts j)) (.ref (Cs c)) d σ H
  | [], _, m, _ => absurd m List.not_mem_nil
  | j :: js, lt, m, h => by
    refine ⟨decide (c = j), G.exm hc (lt j List.mem_cons_self), fun e => ?_, fun e => ?_⟩
    · obtain rfl := of_decide_eq_true e
      exact h
    · have n : ¬ c = j := of_decide_eq_false e
      refine wAll_pick G hc js (fun k hk => lt k (List.mem_cons_of_mem _ hk)) ?_ h
      rcases List.mem_cons.mp m with z | z
      · exact absurd z n
      · exact z
def order : List Nat := [15, 3, 0, 11, 7, 1, 13, 5, 9, 2, 6, 12, 4, 14, 8, 10, 16]
def spCaught : Sp := fun vs H Q _ => ∃ (c : Nat) (v : V), vs = [.int (c : Int), v] ∧ c < 17 ∧ ∀ t H', Same H H' → H' t = some (.tup [.int (c : Int), if c = 16 then .non else v]) → Q (.ref t) H'
theorem scCaught : FnScope ["way", "it", "e"] ["way", "it"] (defScope sCaught) := ⟨rfl, rfl, rfl, by decide +kernel, rfl, by decide +kernel, by decide +kernel⟩
theorem ok_caught (F : Fun K "_law_caught" "_law_caught" sCaught f fd) (G : Errs P w K mg base B Cs) (mi : mg "isinstance" = none) {g : Addr} {gd : FuncData} (GR : FnOk P w K mg base (L2.CX P w) 3 g gd ["way", "it"] (spRaise Cs)) (bR : Binds K gd ["way", "it"] []) (kR : PySem.W.keepIn K (.ref g) = true) (mR : mg "_law_raise" = some (.ref g)) :
    FnOk P w K mg base CX0 4 f fd ["way", "it"] spCaught := by
  refine F.ok scCaught (fun vs H Q E h => ?_) (fun cdv A outer s H vs Q E hr h => ?_)
  · obtain ⟨c, v, rfl, _⟩ := h
    rfl
  obtain ⟨c, v, rfl, hc, q⟩ := h
  refine ⟨_, pss_one (ps_try_all (i := 2) (l := order.map fun j => (Value.ref (Cs j), tsC Cs j)) (tb := fun W => tDrop (tCallS (spRaise Cs) (WE W) (tCons (tVar 0) (tCons (tVar 1) tNil)))) (Wout := fun _ _ _ _ => False) rfl rfl scCaught.nd rfl rfl takes0
    (fun W pn xe tk _ => pss_one (ps_expr (by exact pe_callS GR hr (by rfl) mR kR bR (fun σ => passAt tk σ) (by exact pa_cons (pv 0) (pa_cons (pv 1) pa_nil)))))
    (.cons ⟨by rfl, by decide +kernel, .inl (G.err (by decide : 15 < 17)).gC⟩ (fun a oe cls d pn hz hf => pss_tsC 15 G hz hf (pv 2))
    (.cons ⟨by rfl, by decide +kernel, .inl (G.err (by decide : 3 < 17)).gC⟩ (fun a oe cls d pn hz hf => pss_tsC 3 G hz hf (pv 2))
    (.cons ⟨by rfl, by decide +kernel, .inl (G.err (by decide : 0 < 17)).gC⟩ (fun a oe cls d pn hz hf => pss_tsC 0 G hz hf (pv 2))
    (.cons ⟨by rfl, by decide +kernel, .inl (G.err (by decide : 11 < 17)).gC⟩ (fun a oe cls d pn hz hf => pss_tsC 11 G hz hf (pv 2))
    (.cons ⟨by rfl, by decide +kernel, .inl (G.err (by decide : 7 < 17)).gC⟩ (fun a oe cls d pn hz hf => pss_tsC 7 G hz hf (pv 2))
    (.cons ⟨by rfl, by decide +kernel, .inl (G.err (by decide : 1 < 17)).gC⟩ (fun a oe cls d pn hz hf => pss_tsC 1 G hz hf (pv 2))
    (.cons ⟨by rfl, by decide +kernel, .inl (G.err (by decide : 13 < 17)).gC⟩ (fun a oe cls d pn hz hf => pss_tsC 13 G hz hf (pv 2))
    (.cons ⟨by rfl, by decide +kernel, .inl (G.err (by decide : 5 < 17)).gC⟩ (fun a oe cls d pn hz hf => pss_tsC 5 G hz hf (pv 2))
    (.cons ⟨by rfl, by decide +kernel, .inl (G.err (by decide : 9 < 17)).gC⟩ (fun a oe cls d pn hz hf => pss_tsC 9 G hz hf (pv 2))
    (.cons ⟨by rfl, by decide +kernel, .inl (G.err (by decide : 2 < 17)).gC⟩ (fun a oe cls d pn hz hf => pss_tsC 2 G hz hf (pv 2))
    (.cons ⟨by rfl, by decide +kernel, .inl (G.err (by decide : 6 < 17)).gC⟩ (fun a oe cls d pn hz hf => pss_tsC 6 G hz hf (pv 2))
    (.cons ⟨by rfl, by decide +kernel, .inl (G.err (by decide : 12 < 17)).gC⟩ (fun a oe cls d pn hz hf => pss_tsC 12 G hz hf (pv 2))
    (.cons ⟨by rfl, by decide +kernel, .inl (G.err (by decide : 4 < 17)).gC⟩ (fun a oe cls d pn hz hf => pss_tsC 4 G hz hf (pv 2))
    (.cons ⟨by rfl, by decide +kernel, .inl (G.err (by decide : 14 < 17)).gC⟩ (fun a oe cls d pn hz hf => pss_tsC 14 G hz hf (pv 2))
    (.cons ⟨by rfl, by decide +kernel, .inl (G.err (by decide : 8 < 17)).gC⟩ (fun a oe cls d pn hz hf => pss_tsC 8 G hz hf (pv 2))
    (.cons ⟨by rfl, by decide +kernel, .inl (G.err (by decide : 10 < 17)).gC⟩ (fun a oe cls d pn hz hf => pss_tsC 10 G hz hf (pv 2))
    (.cons ⟨by rfl, by decide +kernel, .inl (G.err (by decide : 16 < 17)).gC⟩ (fun a oe cls d pn hz hf => pss_tsC16 G hz hf (pv 2) (by rfl) mi (by rfl))
    .nil)))))))))))))))))), ?_⟩
  refine ⟨_, rfl, _, rfl, c, v, rfl, hc, fun d H1 s1 x1 => ?_⟩
  refine wAll_pick G hc order (by decide) (by unfold order; simp only [List.mem_cons, List.not_mem_nil, or_false]; omega) fun a na => ?_
  exact ⟨v, rfl, rfl, x1, fun t H2 s2 e2 => q t H2 (s1.trans s2) e2⟩
def spCaughtB : Sp := fun vs H Q _ => ∃ (c : Nat) (v : V), vs = [.int (c : Int), v] ∧ c < 17 ∧ ∀ r H', Same H H' → H' r = some (.lst (yes c)) → Q (.ref r) H'
theorem scCaughtB : FnScope ["way", "it", "e"] ["way", "it"] (defScope sCaughtB) := ⟨rfl, rfl, rfl, by decide +kernel, rfl, by decide +kernel, by decide +kernel⟩
theorem ok_caughtB (F : Fun K "_law_caught_as_base" "_law_caught_as_base" sCaughtB f fd) (G : Errs P w K mg base B Cs) {g g2 : Addr} {gd gd2 : FuncData} (GR : FnOk P w K mg base (L2.CX P w) 3 g gd ["way", "it"] (spRaise Cs)) (bR : Binds K gd ["way", "it"] []) (kR : PySem.W.keepIn K (.ref g) = true) (mR : mg "_law_raise" = some (.ref g))
    (GC : FnHp P w K mg base CX0 1 g2 gd2 ["error"] (fun pp => spClasses (Zp Cs pp))) (bC : Binds K gd2 ["error"] []) (kC : PySem.W.keepIn K (.ref g2) = true) (mC : mg "_law_classes" = some (.ref g2)) :
    FnOk P w K mg base CX0 4 f fd ["way", "it"] spCaughtB := by
  refine F.ok scCaughtB (fun vs H Q E h => ?_) (fun cdv A outer s H vs Q E hr h => ?_)
  · obtain ⟨c, v, rfl, _⟩ := h
    rfl
  obtain ⟨c, v, rfl, hc, q⟩ := h
  have hd1 : (A.deeper (envOfC "_law_caught_as_base" (defScope sCaughtB) s.heap.objs.size f cdv)).depth + 3 * 1 + 5 < recursionLimit := by have := hr.dp; omega
  have hd2 : (A.deeper (envOfC "_law_caught_as_base" (defScope sCaughtB) s.heap.objs.size f cdv)).units + 16 * 1 + 200 < cLine := by have := hr.un; omega
  refine ⟨_, pss_one (ps_try_all (i := 2) (l := [(Value.ref B, fun a cls d => fun D σ H => ∃ c v, σ[2]? = some (some (.ref a)) ∧ c < 17 ∧ cls = .ref (Cs c) ∧ XdAt H (eF c) v d ∧ ∀ r H', Same H H' → H' r = some (.lst (yes c)) → D.rt (.ref r) H')])
    (tb := fun W => tDrop (tCallS (spRaise Cs) (WE W) (tCons (tVar 0) (tCons (tVar 1) tNil)))) (Wout := fun _ _ _ _ => False) rfl rfl scCaughtB.nd rfl rfl takes0
    (fun W pn xe tk _ => pss_one (ps_expr (by exact pe_callS GR hr (by rfl) mR kR bR (fun σ => passAt tk σ) (by exact pa_cons (pv 0) (pa_cons (pv 1) pa_nil)))))
    (.cons ⟨by rfl, by decide +kernel, .inl G.bs.gB⟩ (fun a oe cls d pn hz hf => ⟨fun pins s σ H D I h => (pss_one (ps_ret (pe_callHp (p := (a, oe)) GC ⟨hd1, hd2⟩ List.mem_cons_self (by rfl) mC kC bC (pa_cons (pv 2) pa_nil)))).run pins s σ H D I ?suite⟩) .nil)), ?_⟩
  case suite =>
    obtain ⟨c, v, hv, hc, e, hx, q⟩ := h
    refine ⟨_, hv, a, c, rfl, hc, ⟨rfl, hz.1.trans e, hf, ?_⟩, q⟩
    cases hE : eF c with
    | none =>
      rw [hE] at hx
      exact .inl (hz.2.trans hx)
    | some f =>
      rw [hE] at hx
      obtain ⟨dd, e1, e2⟩ := hx
      exact .inr ⟨dd, _, hz.2.trans e1, e2⟩
  refine ⟨_, rfl, _, rfl, c, v, rfl, hc, fun d H1 s1 x1 => ?_⟩
  refine ⟨true, G.exmB hc, fun _ a na => ?_, fun z => Bool.noConfusion z⟩
  exact ⟨c, v, rfl, hc, rfl, x1, fun r H2 s2 e2 => q r H2 (s1.trans s2) e2⟩
end
end Zk

set_option maxHeartbeats 4000000
/-! D6: the law. -/
namespace Zk
open PySem PySem.Spec PyProof.Rows L2
abbrev sLaw : Stmt := top 32
def spLaw (K : PySem.W.Frag) : Sp := fun vs H Q _ => ∃ (a : Addr) (ns : List Int), vs = [.ref a] ∧ SqL K H a (ns.map V.int) ∧ ns.length ≤ 63 ∧ ∀ H', Q (.bl true) H'
/-- what the law's body calls -/
structure Used (P : Program) (w : World) (K : PySem.W.Frag) (mg : Str → Option Value) (base : Heap) (Cs : Nat → Addr) : Prop where
  deck : Call1 P w K mg base "_law_deck" 1 ["script", "seed"] (spDeck K)
  any3 : Call1 P w K mg base "_law_any" 7 ["deck", "deep"] (spAny 3)
  any2 : Call1 P w K mg base "_law_any" 7 ["deck", "deep"] (spAny 2)
  byPos : Call1 P w K mg base "_law_by_position" 3 ["it"] (spMade Cs)
  byName : Call1 P w K mg base "_law_by_name" 3 ["it"] (spMade Cs)
  carried : Call1 P w K mg base "_law_carried" 1 ["made"] (spCarried Cs)
  isOwn : Call1 P w K mg base "_law_is_own" 2 ["at", "error"] (spIsOwn Cs)
  caught : Call1 P w K mg base "_law_caught" 4 ["way", "it"] spCaught
  caughtB : Call1 P w K mg base "_law_caught_as_base" 4 ["way", "it"] spCaughtB
  sys : SysB base
  enum : mg "enumerate" = none
abbrev nmL : List Str := ["script", "deck", "near", "far", "texts", "some", "others", "made", "at", "error", "way", "it", "place"]
section
variable {P : Program} {w : World} {K : PySem.W.Frag} {mg : Str → Option Value} {base : Heap} {f B : Addr} {fd : FuncData} {Cs : Nat → Addr}
theorem scLaw : FnScope nmL ["script"] (defScope sLaw) := ⟨rfl, rfl, rfl, by decide +kernel, rfl, by decide +kernel, by decide +kernel⟩
theorem ok_law (F : Fun K "law" "law" sLaw f fd) (T : Blt mg) (U : Used P w K mg base Cs) : LawAt P w K mg base f fd ["script"] (spLaw K) := by
  refine law_at (N := nmL) F scLaw (fun cdv s H vs Q h => ?_)
  obtain ⟨a, ns, rfl, hS, hl, q⟩ := h
  obtain ⟨f1, d1, G1, b1, k1, m1⟩ := U.deck.ex
  obtain ⟨f2, d2, G2, b2, k2, m2⟩ := U.any3.ex
  obtain ⟨f3, d3, G3, b3, k3, m3⟩ := U.any2.ex
  obtain ⟨f4, d4, G4, b4, k4, m4⟩ := U.byPos.ex
  obtain ⟨f5, d5, G5, b5, k5, m5⟩ := U.byName.ex
  obtain ⟨f6, d6, G6, b6, k6, m6⟩ := U.carried.ex
  obtain ⟨f7, d7, G7, b7, k7, m7⟩ := U.isOwn.ex
  obtain ⟨f8, d8, G8, b8, k8, m8⟩ := U.caught.ex
  obtain ⟨f9, d9, G9, b9, k9, m9⟩ := U.caughtB.ex
  have hr : Room 8 (topX P w K mg base nmL "law" (defScope sLaw) f cdv s H).A := ⟨rfl, (by show callerA.depth + 1 + 3 * 8 + 5 < recursionLimit; decide), (by show callerA.units + 3 + 16 * 8 + 200 < cLine; decide)⟩
  have r1 : Room 1 (topX P w K mg base nmL "law" (defScope sLaw) f cdv s H).A := hr.mono (by decide)
  have r2 : Room 2 (topX P w K mg base nmL "law" (defScope sLaw) f cdv s H).A := hr.mono (by decide)
  have r3 : Room 3 (topX P w K mg base nmL "law" (defScope sLaw) f cdv s H).A := hr.mono (by decide)
  have r4 : Room 4 (topX P w K mg base nmL "law" (defScope sLaw) f cdv s H).A := hr.mono (by decide)
  have r7 : Room 7 (topX P w K mg base nmL "law" (defScope sLaw) f cdv s H).A := hr.mono (by decide)
  have hu : (topX P w K mg base nmL "law" (defScope sLaw) f cdv s H).A.units + 110 < cLine := by have := hr.un; omega
  have bR : bootBuiltins "repr" = some (.builtin "repr") := by decide +kernel
  refine ⟨_, pss_cons (ps_set (i := 1) scLaw.nd rfl (Or.inl rfl) (pe_call G1 r1 rfl m1 k1 b1 .nil pass0 (pa_cons (pv 0) (pa_cons pe_int pa_nil))))
    (pss_cons (ps_par (i := 2) (j := 3) rfl scLaw.nd rfl rfl (by decide) rfl rfl (pa_cons (pe_call G2 r7 rfl m2 k2 b2 .nil pass0 (pa_cons (pv 1) (pa_cons pe_int pa_nil))) (pa_cons (pe_call G3 r7 rfl m3 k3 b3 .nil pass0 (pa_cons (pv 1) (pa_cons pe_int pa_nil))) pa_nil)) rfl)
    (pss_cons (ps_set (i := 4) scLaw.nd rfl (Or.inr rfl) (pe_tup (pa_cons (pe_callB (call_repr U.sys rfl hu) (by rfl) T.repr bR (pa_cons (pv 2) pa_nil)) (pa_cons (pe_callB (call_repr U.sys rfl hu) (by rfl) T.repr bR (pa_cons (pv 3) pa_nil)) pa_nil))))
    (pss_cons (ps_par (i := 5) (j := 6) rfl scLaw.nd rfl rfl (by decide) rfl rfl (pa_cons (pe_call G4 r3 rfl m4 k4 b4 .nil pass0 (pa_cons (pv 2) pa_nil)) (pa_cons (pe_call G5 r3 rfl m5 k5 b5 .nil pass0 (pa_cons (pv 3) pa_nil)) pa_nil)) rfl)
    (pss_cons (ps_if (pt_cmpR (op_neD hr.units) (pe_lc (own := [("it", 11)]) (g := gName 11) rfl scLaw.nd (pi_list (pe_call G6 r1 rfl m6 k6 b6 .nil pass0 (pa_cons (pv 5) pa_nil)))
        (blkOk_by (N := nmL) (sc := defScope sLaw) (by decide +kernel)) (fun _ _ _ _ _ => pg_name (i := 11) scLaw.nd rfl (Or.inl rfl))
        (fun _ _ _ _ _ => pts_one (pt_cmpR op_ne (pe_callB (call_repr U.sys rfl hu) (by rfl) T.repr bR (pa_cons (pv 11) pa_nil)) (pe_ix (r := rIxT K) ix_tup (pv 4) pe_int (fun _ _ => rfl)) (nomark _))) (fun _ _ _ _ _ => pv 11)) (pe_lst pa_nil) (nomark _)) (pss_one (ps_ret pe_bl)) pss_nil)
    (pss_cons (ps_if (pt_cmpR (op_neD hr.units) (pe_lc (own := [("it", 11)]) (g := gName 11) rfl scLaw.nd (pi_list (pe_call G6 r1 rfl m6 k6 b6 .nil pass0 (pa_cons (pv 6) pa_nil)))
        (blkOk_by (N := nmL) (sc := defScope sLaw) (by decide +kernel)) (fun _ _ _ _ _ => pg_name (i := 11) scLaw.nd rfl (Or.inl rfl))
        (fun _ _ _ _ _ => pts_one (pt_cmpR op_ne (pe_callB (call_repr U.sys rfl hu) (by rfl) T.repr bR (pa_cons (pv 11) pa_nil)) (pe_ix (r := rIxT K) ix_tup (pv 4) pe_int (fun _ _ => rfl)) (nomark _))) (fun _ _ _ _ _ => pv 11)) (pe_lst pa_nil) (nomark _)) (pss_one (ps_ret pe_bl)) pss_nil)
    (pss_cons (ps_for PassesOwn.never rfl (pi_tup (pe_tup (pa_cons (pv 5) (pa_cons (pv 6) pa_nil)))) (pg_name (i := 7) scLaw.nd rfl (Or.inl rfl))
      (pss_one (ps_for PassesOwn.never rfl (pi_enum (by rfl) U.enum (pa_cons (pv 7) pa_nil)) (pg_tup (by rfl) (pgs_cons (pg_name (i := 8) scLaw.nd rfl (Or.inl rfl)) (pgs_cons (pg_name (i := 9) scLaw.nd rfl (Or.inl rfl)) pgs_nil)))
        (pss_one (ps_if (pt_not (pt_val (pe_call G7 r2 rfl m7 k7 b7 .nil pass0 (pa_cons (pv 8) (pa_cons (pv 9) pa_nil))))) (pss_one (ps_ret pe_bl)) pss_nil)))))
    (pss_cons (ps_for PassesOwn.never rfl (pi_range1 (by rfl) T.range (pa_cons pe_int pa_nil)) (pg_name (i := 10) scLaw.nd rfl (Or.inr rfl))
      (pss_cons (ps_if (pt_cmpR op_ne (pe_callB (call_repr U.sys rfl hu) (by rfl) T.repr bR (pa_cons (pe_call G8 r4 rfl m8 k8 b8 .nil pass0 (pa_cons (pv 10) (pa_cons (pv 2) pa_nil))) pa_nil))
          (pe_callB (call_repr U.sys rfl hu) (by rfl) T.repr bR (pa_cons (pe_tup (pa_cons (pv 10) (pa_cons (pe_ifExp (pt_cmpR op_lt (pv 10) pe_int (nomark _)) (pv 2) pe_non) pa_nil))) pa_nil)) (nomark _)) (pss_one (ps_ret pe_bl)) pss_nil)
      (pss_one (ps_if (pt_cmpR (op_neD hr.units) (pe_call G9 r4 rfl m9 k9 b9 .nil pass0 (pa_cons (pv 10) (pa_cons (pv 3) pa_nil)))
        (pe_lc (own := [("place", 12)]) (g := gName 12) (tt := tYes) rfl scLaw.nd (pi_range1 (by rfl) T.range (pa_cons pe_int pa_nil))
          (blkOk_by (N := nmL) (sc := defScope sLaw) (by decide +kernel)) (fun _ _ _ _ _ => pg_name (i := 12) scLaw.nd rfl (Or.inl rfl)) (fun _ _ _ _ _ => pts_nil)
          (fun _ _ _ _ _ => pe_cmpR op_eq (pv 12) (pv 10) (nomark _))) (nomark _)) (pss_one (ps_ret pe_bl)) pss_nil))))
    (pss_one (ps_ret pe_bl))))))))), ?_⟩
  refine ⟨_, rfl, a, ns, 15365000, rfl, hS, hl, by decide, by decide, fun dk lf H1 D1 => ?_⟩
  refine ⟨_, rfl, H, dk, lf, 0, 3, rfl, by decide, D1, by decide +kernel, fun near dN H2' H2 g2 D2 sN fN => ?_⟩
  refine ⟨_, rfl, H2', dk, lf, 0 + anyCost 3, 2, rfl, by decide, D2, by decide +kernel, fun far dF H3' H3 g3 D3 sF fF => ?_⟩
  refine ⟨near, far, rfl, ?_⟩
  have SN : Sd H3 near dN := (sN.same g3.same).same D3.same
  have SF : Sd H3 far dF := sF.same D3.same
  have z3 : anyLen 3 = 400078 := by decide +kernel
  have z2 : anyLen 2 = 130024 := by decide +kernel
  have fN' : Fine 8 400078 dN := z3 ▸ fN
  have fF' : Fine 8 400078 dF := (show Fine 6 130024 dF from z2 ▸ fF).mono (by decide) (by decide)
  have dpt : ∀ d, Fine 8 400078 d → d.depth ≤ 100 := fun d h => Nat.le_trans h.deep (by decide)
  have lng : ∀ d, Fine 8 400078 d → d.shown.length ≤ sizeLine := fun d h => Nat.le_trans h.long (by decide)
  clear hS D1 g2 D2 g3 D3 sN sF
  refine ⟨_, rfl, near, dN, rfl, SN, fN'.able, dpt _ fN', lng _ fN', _, rfl, far, dF, rfl, SF, fF'.able, dpt _ fF', lng _ fF', (by show 2 ≤ sizeLine; decide), fun t ht => ?_⟩
  have s4 := same_new ht (.tup [.str dN.shown, .str dF.shown])
  refine ⟨_, rfl, near, rfl, fun l1 as1 H5 s5 e5 M5 => ⟨_, rfl, far, rfl, fun l2 as2 H6 s6 e6 M6 => ⟨.ref l1, .ref l2, rfl, ?_⟩⟩⟩
  have t6 : H6 t = some (.tup [.str dN.shown, .str dF.shown]) := s6 _ _ (s5 _ _ upd_same)
  have SN6 : Sd H6 near dN := ((SN.same s4).same s5).same s6
  have SF6 : Sd H6 far dF := ((SF.same s4).same s5).same s6
  have e5' := s6 _ _ e5
  have M5' := M5.same s6
  clear SN SF s4 s5 e5 M5 s6 ht
  have yesNe : ∀ (x : Str), (!decide (V.str x = V.str x)) = false := fun x => by rw [decide_eq_true rfl]; rfl
  have nilNe : (!PyData.eqv (.list (([] : List Int).map PyData.int)) (.list (([] : List Int).map PyData.int))) = false := by rw [show PyData.eqv (.list (([] : List Int).map PyData.int)) (.list (([] : List Int).map PyData.int)) = true from eqv_nil []]; rfl
  -- what the errors carry
  refine ⟨_, rfl, l1, as1, near, rfl, e5', M5', fun r H7 s7 e7 => ⟨r, rfl, ⟨_, SqL.of e7⟩, fun D hD => ?_⟩⟩
  have nrD : r ≠ D := ne_of_none e7 hD
  have sD := s7.trans (same_new hD (.lst []))
  refine lc_list (K := K) (a := r) (xs := List.replicate 16 near) (fun _ H' => H' = upd H7 D (.lst [])) rfl (fun _ H' _ e => by rw [e]; exact SqL.of ((upd_ne nrD).trans e7)) ?_ ?_
  · rintro i x H' hx rfl
    have hx' : x = near := (List.eq_of_mem_replicate (List.mem_of_getElem? hx))
    subst hx'
    refine ⟨rfl, ⟨_, rfl, x, dN, rfl, SN6.same sD, fN'.able, dpt _ fN', lng _ fN', _, rfl, t, _, 0, .str dN.shown, rfl, rfl, SqT.of (sD _ _ t6), atI_nat (j := 0) rfl, rfl, _, rfl, ?_⟩⟩
    dsimp only
    rw [yesNe]
    exact iteF rfl
  rintro H' rfl
  refine ⟨Nat.zero_le _, fun p hp => ?_⟩
  have npD : D ≠ p := ne_of_none upd_same hp
  refine ⟨_, _, ints_dp (ns := []) ((upd_ne npD).trans upd_same), ints_dp (ns := []) upd_same, ints_shaped [], ints_shaped [], _, rfl, ?_⟩
  rw [nilNe]
  refine iteF ?_
  have s8 := sD.trans (same_new hp (.lst []))
  generalize upd (upd H7 D (.lst [])) p (.lst []) = H8 at s8
  clear sD nrD npD hD hp s7 e7
  clear r D p H7
  refine ⟨_, rfl, l2, as2, far, rfl, s8 _ _ e6, M6.same s8, fun r H7 s7 e7 => ⟨r, rfl, ⟨_, SqL.of e7⟩, fun D hD => ?_⟩⟩
  have nrD : r ≠ D := ne_of_none e7 hD
  have sD := (s8.trans s7).trans (same_new hD (.lst []))
  refine lc_list (K := K) (a := r) (xs := List.replicate 16 far) (fun _ H' => H' = upd H7 D (.lst [])) rfl (fun _ H' _ e => by rw [e]; exact SqL.of ((upd_ne nrD).trans e7)) ?_ ?_
  · rintro i x H' hx rfl
    have hx' : x = far := (List.eq_of_mem_replicate (List.mem_of_getElem? hx))
    subst hx'
    refine ⟨rfl, ⟨_, rfl, x, dF, rfl, SF6.same sD, fF'.able, dpt _ fF', lng _ fF', _, rfl, t, _, 1, .str dF.shown, rfl, rfl, SqT.of (sD _ _ t6), atI_nat (j := 1) rfl, rfl, _, rfl, ?_⟩⟩
    dsimp only
    rw [yesNe]
    exact iteF rfl
  rintro H' rfl
  refine ⟨Nat.zero_le _, fun p hp => ?_⟩
  have npD : D ≠ p := ne_of_none upd_same hp
  refine ⟨_, _, ints_dp (ns := []) ((upd_ne npD).trans upd_same), ints_dp (ns := []) upd_same, ints_shaped [], ints_shaped [], _, rfl, ?_⟩
  rw [nilNe]
  refine iteF ?_
  have s9 := sD.trans (same_new hp (.lst []))
  generalize upd (upd H7 D (.lst [])) p (.lst []) = H9 at s9
  clear sD nrD npD hD hp s7 e7 s8
  clear r D p H7 H8
  -- of which classes they are
  refine ⟨_, rfl, _, rfl, (by show 2 ≤ sizeLine; decide), fun p hp => ⟨p, rfl, ⟨_, SqT.of upd_same⟩, ?_⟩⟩
  have sA := s9.trans (same_new hp (.tup [.ref l1, .ref l2]))
  have pA : upd H9 p (.tup [.ref l1, .ref l2]) p = some (.tup [.ref l1, .ref l2]) := upd_same
  generalize upd H9 p (.tup [.ref l1, .ref l2]) = HA at sA pA
  clear s9 hp
  clear H9
  refine for_tup (K := K) (a := p) (xs := [.ref l1, .ref l2]) (fun _ σ' H' => ∃ v7 v8 v9, σ' = [some (.ref a), some (.ref dk), some near, some far, some (.ref t), some (.ref l1), some (.ref l2), v7, v8, v9, none, none, none] ∧ Same HA H')
    ⟨none, none, none, rfl, Same.refl _⟩ (fun _ _ H' _ ⟨_, _, _, _, s⟩ => SqT.of (s _ _ pA)) ?_ ?_
  · rintro i x σ' H' hx ⟨v7, v8, v9, rfl, s⟩
    have ex : ∃ l as v, x = .ref l ∧ H6 l = some (.lst (as.map V.ref)) ∧ MksAt H6 v (cfs Cs) as := by
      match i, hx with
      | 0, hx => exact ⟨l1, as1, near, (Option.some.inj hx).symm, e5', M5'⟩
      | 1, hx => exact ⟨l2, as2, far, (Option.some.inj hx).symm, e6, M6⟩
    obtain ⟨l, as, v, rfl, el, Ml⟩ := ex
    have sl := sA.trans s
    refine ⟨_, rfl, l, as.map V.ref, rfl, SqL.of (sl _ _ el), ?_⟩
    refine for_it (walk_enum (K := K) (a := l) (xs := as.map V.ref)) (fun _ σ' H' => ∃ v8 v9, σ' = [some (.ref a), some (.ref dk), some near, some far, some (.ref t), some (.ref l1), some (.ref l2), some (.ref l), v8, v9, none, none, none] ∧ Same HA H')
      ⟨v8, v9, rfl, s⟩ (fun _ _ H' _ ⟨_, _, _, s⟩ => SqL.of (sA.trans s _ _ el)) ?_ ?_
    · rintro k y σ' H1 H2 hk ⟨w8, w9, rfl, s1⟩ ⟨T, x, y', rfl, hT, rfl, ex, ey⟩
      obtain rfl := Option.some.inj ex
      have s2 := s1.trans (same_new hT (.tup [.int (k : Int), y']))
      have k17 : k < 17 := by
        have := Ml.len
        rw [List.length_map, this] at hk
        simpa [cfs] using hk
      obtain ⟨b, hb, Mb⟩ := Ml.get (cfs_get k17)
      have ey' : y' = .ref b := by
        have ey' : (as.map V.ref)[k]? = some y' := ey
        rw [List.getElem?_map, hb] at ey'
        exact (Option.some.inj ey').symm
      subst ey'
      refine ⟨T, _, rfl, SqT.of upd_same, rfl, ?_⟩
      refine ⟨_, _, rfl, _, _, rfl, rfl, _, rfl, _, rfl, b, k, rfl, k17, (Mb.same (sA.trans s2)).any, fun H3 s3 => ⟨true, rfl, ?_⟩⟩
      refine iteF ?_
      exact ⟨_, _, rfl, s2.trans s3⟩
    · rintro σ' H1 ⟨w8, w9, rfl, s1⟩
      exact ⟨_, _, _, rfl, s1⟩
  rintro σ' HB ⟨v7, v8, v9, rfl, sB⟩
  -- what catches them
  have s0 := sA.trans sB
  clear sA sB pA
  refine ⟨17, rfl, by decide, by decide, ?_⟩
  refine for_range (n := 17) (fun _ σ' H' => ∃ v7 v8 v9 v10, σ' = [some (.ref a), some (.ref dk), some near, some far, some (.ref t), some (.ref l1), some (.ref l2), v7, v8, v9, v10, none, none] ∧ Same HB H')
    ⟨v7, v8, v9, none, rfl, Same.refl _⟩ ?_ ?_
  · rintro i σ' H' hi ⟨v7, v8, v9, v10, rfl, s1⟩
    have zi : V.int (0 + (i : Int)) = V.int (i : Int) := by rw [Int.zero_add]
    refine ⟨_, rfl, _, rfl, i, near, by rw [zi]; rfl, hi, fun t1 H1 s2 e1 => ?_⟩
    have sH := s0.trans (s1.trans s2)
    have sd : ∀ {H'}, Same H6 H' → Sd H' (if i = 16 then .non else near) (if i = 16 then .none else dN) := fun {H'} s => by
      by_cases h : i = 16
      · rw [if_pos h, if_pos h]
        exact .non
      · rw [if_neg h, if_neg h]
        exact SN6.same s
    have fd : Fine 8 400078 (if i = 16 then .none else dN) := by
      by_cases h : i = 16
      · rw [if_pos h]
        exact fine_none.mono (by decide) (by decide)
      · rw [if_neg h]
        exact fN'
    have ft : Fine 9 (2 * (400078 + 2) + 2) (.tuple [.int (i : Int), if i = 16 then .none else dN]) := fine_tup (ds := [.int (i : Int), if i = 16 then .none else dN]) fun d hd => by
      rcases List.mem_cons.mp hd with rfl | hd
      · refine (fine_int ?_).mono (by decide) (by decide)
        have : (i : Int).natAbs = i := rfl
        rw [this]
        exact Nat.lt_of_le_of_lt (Nat.log2_le_self i) (by omega)
      · rw [List.mem_singleton.mp hd]
        exact fd
    have d9 : (PyData.tuple [.int (i : Int), if i = 16 then .none else dN]).depth ≤ 100 := Nat.le_trans ft.deep (by decide)
    have g9 : (PyData.tuple [.int (i : Int), if i = 16 then .none else dN]).shown.length ≤ sizeLine := Nat.le_trans ft.long (by decide)
    refine ⟨.ref t1, _, rfl, .tup e1 (.cons (.int _) (.cons (sd sH) .nil)), ft.able, d9, g9, ?_⟩
    have key : ∀ (Q' : VK) (σ' : List (Option V)), σ'[2]? = some (some near) → Q' (if i = 16 then .non else near) H1 → (if decide ((0 : Int) + i < 16) = true then (∃ v, σ'[2]? = some (some v) ∧ Q' v H1) else Q' .non H1) := fun Q' σ' e q => by
      by_cases h : i = 16
      · rw [if_pos h] at q
        rw [if_neg (by simp; omega)]
        exact q
      · rw [if_neg h] at q
        rw [if_pos (by simp; omega)]
        exact ⟨near, e, q⟩
    refine ⟨_, rfl, _, rfl, _, _, rfl, rfl, _, rfl, ?_⟩
    refine key _ _ rfl ?_
    refine ⟨(by show 2 ≤ sizeLine; decide), fun t2 ht2 => ?_⟩
    have s3 := same_new ht2 (.tup [.int (0 + (i : Int)), if i = 16 then .non else near])
    have e2 : upd H1 t2 (.tup [.int (0 + (i : Int)), if i = 16 then .non else near]) t2 = some (.tup [.int (i : Int), if i = 16 then .non else near]) := by rw [upd_same, zi]
    generalize upd H1 t2 (.tup [.int (0 + (i : Int)), if i = 16 then .non else near]) = H2 at s3 e2
    refine ⟨.ref t2, _, rfl, .tup e2 (.cons (.int _) (.cons (sd (sH.trans s3)) .nil)), ft.able, d9, g9, rfl, _, rfl, ?_⟩
    rw [yesNe]
    refine iteF ?_
    refine ⟨_, rfl, _, rfl, i, far, by rw [zi]; rfl, hi, fun r H3 s4 e3 => ?_⟩
    refine ⟨17, rfl, by decide, by decide, fun D hD => ?_⟩
    have nrD : r ≠ D := ne_of_none e3 hD
    refine lc_range (lo := 0) (n := 17) (fun k H' => H' = upd H3 D (.lst ((List.range k).map fun (j : Nat) => V.bl (decide (V.int (j : Int) = V.int (i : Int)))))) rfl ?_ ?_
    · rintro k H' hk rfl
      refine ⟨rfl, ?_⟩
      dsimp only [tYes]
      refine iteT ?_
      refine ⟨_, rfl, _, rfl, rfl, ?_⟩
      refine ⟨_, upd_same, sl_lt (by rw [List.length_map, List.length_range]; omega), ?_⟩
      rw [upd_upd, more_range, Int.zero_add, Int.zero_add]
    · rintro H' rfl
      have eD := one_yes i 17
      refine ⟨_, _, bls_dp (bs := (List.range 17).map fun j => decide (i = j)) ?_, bls_dp (bs := (List.range 17).map fun j => decide (i = j)) ?_, bls_shaped _, bls_shaped _, _, rfl, ?_⟩
      · rw [← yes_bls]
        exact (upd_ne nrD).trans e3
      · rw [← yes_bls, upd_same, eD]
        rfl
      · rw [bls_eqv]
        refine iteF ?_
        exact ⟨_, _, _, _, rfl, s1.trans (s2.trans (s3.trans (s4.trans (same_new hD _))))⟩
  · rintro σ' H' ⟨v7, v8, v9, v10, rfl, s1⟩
    exact q H'
end
end Zk

set_option maxHeartbeats 4000000
/-! D7: what the program's top has written, gathered. -/
namespace Zk
open PySem PySem.Spec PyProof.Rows L2
open PySem.W (findIn subIn typeIn keepIn excTail kitOne kitAny exmOne clsIn nsIn)
/-- what the written part says of one error class -/
structure ClsF (K : PySem.W.Frag) (x f qual : Str) (st : Stmt) (B C fI : Addr) : Prop where
  gC : nsIn K mainGlobals x = some (some (.ref C))
  xL : ∃ q N bs sn sub ab col dd k0 k1 k2 k3 k5, K.lookup C = some (excClassObj x q C N bs [.ref B, .type "Exception", .type "BaseException", .type "object"] true sn sub ab col dd k0 k1 k2 k3 k5 "Exception.__new__")
  sa : findIn K (.ref C) "__setattr__" = some (some (.builtin "object.__setattr__"))
  ga : findIn K (.ref C) "__getattribute__" = some (some (.builtin "BaseException.__getattribute__"))
  gg : findIn K (.ref C) "__getattr__" = some none
  ca : findIn K (.ref C) "__class__" = some (some (.builtin "object.__class__"))
  exC : subIn K (.ref C) (.type "BaseException") = some true
  tyC : typeIn K (.ref C) = some (.type "type")
  kC : keepIn K (.ref C) = true
  no : findIn K (.ref C) f = some none
  iC : findIn K (.ref C) "__init__" = some (some (.ref fI))
  tI : typeIn K (.ref fI) = some (.type "function")
  fn : ∃ fd, Fun K "__init__" qual st fI fd
section
variable {K : PySem.W.Frag} {x f qual : Str} {st : Stmt} {B C fI : Addr}
theorem clsF_mk {q : Str} {N : Addr} {bs : List Value} {sn : List Str} {sub : List Value} {ab : Bool} {col : Option Bool} {dd : Option Addr} {k0 k1 k2 k3 k5 : Option Value} {oc kV dc pm cd ct : Value} {od an : Option Addr} {sl : Array (Option Value)}
    (gC : nsIn K mainGlobals x = some (some (.ref C)))
    (xL : K.lookup C = some (excClassObj x q C N bs [.ref B, .type "Exception", .type "BaseException", .type "object"] true sn sub ab col dd k0 k1 k2 k3 k5 "Exception.__new__"))
    (sa : findIn K (.ref C) "__setattr__" = some (some (.builtin "object.__setattr__"))) (ga : findIn K (.ref C) "__getattribute__" = some (some (.builtin "BaseException.__getattribute__"))) (gg : findIn K (.ref C) "__getattr__" = some none)
    (ca : findIn K (.ref C) "__class__" = some (some (.builtin "object.__class__"))) (exC : subIn K (.ref C) (.type "BaseException") = some true) (tyC : typeIn K (.ref C) = some (.type "type")) (kC : keepIn K (.ref C) = true) (no : findIn K (.ref C) f = some none)
    (iC : findIn K (.ref C) "__init__" = some (some (.ref fI))) (tI : typeIn K (.ref fI) = some (.type "function"))
    (l1 : K.lookup fI = some ⟨oc, od, .func (PySem.W.fnOf "__init__" qual (defArgs st) (defBody st) (defScope st) .none kV dc pm an cd ct), sl⟩) (c1 : PySem.W.codeIn K cd qual = true) (k1' : keepIn K (.ref fI) = true) : ClsF K x f qual st B C fI :=
  ⟨gC, ⟨q, N, bs, sn, sub, ab, col, dd, k0, k1, k2, k3, k5, xL⟩, sa, ga, gg, ca, exC, tyC, kC, no, iC, tI, _, fun_mk l1 c1 k1'⟩
theorem ClsF.err {h : Heap} {mg : Str → Option Value} (T : ClsF K x f qual st B C fI) (X : K.In h) (G : h.Ns mainGlobals mg) : ErrC K mg B x C := by
  obtain ⟨q, N, bs, sn, sub, ab, col, dd, k0, k1, k2, k3, k5, xL⟩ := T.xL
  have cl : ∃ cd, clsIn K C = some cd ∧ cd.name = x ∧ cd.mro = [.ref C, .ref B, .type "Exception", .type "BaseException", .type "object"] := by
    refine ⟨{ name := x, bases := bs, mro := .ref C :: [.ref B, .type "Exception", .type "BaseException", .type "object"], ns := N, qualname := q, hasDict := true, slotNames := sn, subclasses := sub, abstract := ab, collection := col, hasDel := false }, ?_, rfl, rfl⟩
    unfold clsIn
    rw [xL]
  exact ⟨⟨⟨x, q, N, bs, _, sn, sub, ab, col, dd, k0, k1, k2, k3, k5, xL, rfl⟩, T.sa, T.ga, T.gg, T.ca, T.exC, T.tyC, T.kC⟩, PySem.W.mg_of X G T.gC, cl⟩
theorem baseC_mk {h : Heap} {mg : Str → Option Value} (X : K.In h) (G : h.Ns mainGlobals mg) {q : Str} {N : Addr} {bs bm : List Value} {hdct : Bool} {sn : List Str} {sub : List Value} {ab : Bool} {col : Option Bool} {dd : Option Addr} {k0 k1 k2 k3 k5 : Option Value}
    (gB : nsIn K mainGlobals x = some (some (.ref B))) (xB : K.lookup B = some (excClassObj x q B N bs bm hdct sn sub ab col dd k0 k1 k2 k3 k5 "Exception.__new__"))
    (ty : typeIn K (.ref B) = some (.type "type")) (ex : subIn K (.ref B) (.type "BaseException") = some true) (sp : PySem.W.specialIn K (.ref B) "__getattribute__" = some (some (.builtin "type.__getattribute__")))
    (rd : PySem.W.readsIn K B (.type "type") = true) (fc : PySem.W.findCls K (.ref B) (.type "type") "__init__" = some (.val (.builtin "Exception.__init__"))) : BaseC K mg x B := by
  refine ⟨PySem.W.mg_of X G gB, ⟨{ name := x, bases := bs, mro := .ref B :: bm, ns := N, qualname := q, hasDict := hdct, slotNames := sn, subclasses := sub, abstract := ab, collection := col, hasDel := false }, ?_, rfl⟩, ty, ex, sp, rd, fc⟩
  unfold clsIn
  rw [xB]
end
/-- a def of the top -/
structure DefF (K : PySem.W.Frag) (x : Str) (st : Stmt) (f : Addr) : Prop where
  a : nsIn K mainGlobals x = some (some (.ref f))
  fn : ∃ fd, Fun K x x st f fd
theorem defF_mk {K : PySem.W.Frag} {x : Str} {st : Stmt} {f : Addr} {od an : Option Addr} {sl : Array (Option Value)} {oc kV dc pm cd ct : Value} (a : nsIn K mainGlobals x = some (some (.ref f)))
    (l : K.lookup f = some ⟨oc, od, .func (PySem.W.fnOf x x (defArgs st) (defBody st) (defScope st) .none kV dc pm an cd ct), sl⟩) (c : PySem.W.codeIn K cd x = true) (k : keepIn K (.ref f) = true) : DefF K x st f := ⟨a, _, fun_mk l c k⟩
def pick17 (c : List Addr) (i : Nat) : Addr := c.getD i 0
theorem all_mk {l : PySem.W.OpenLaw} {w : World} {K : PySem.W.Frag} {h : Heap} {mg : Str → Option Value} {fa : Addr} (X : K.In h) (G : h.Ns mainGlobals mg) (hfa : mg "law" = some (.ref fa)) {B : Addr} (bs : BaseC K mg "PlayError" B) (gk : ClsG K)
    {C0 I0 : Addr} (c0 : ClsF K "BadPoly" "thing" "BadPoly.__init__" (inClass (top 2) 0) B C0 I0)
    {C1 I1 : Addr} (c1 : ClsF K "BadWord" "thing" "BadWord.__init__" (inClass (top 3) 0) B C1 I1)
    {C2 I2 : Addr} (c2 : ClsF K "BadScript" "thing" "BadScript.__init__" (inClass (top 4) 0) B C2 I2)
    {C3 I3 : Addr} (c3 : ClsF K "BadProgram" "thing" "BadProgram.__init__" (inClass (top 5) 0) B C3 I3)
    {C4 I4 : Addr} (c4 : ClsF K "BadCode" "thing" "BadCode.__init__" (inClass (top 6) 0) B C4 I4)
    {C5 I5 : Addr} (c5 : ClsF K "BadMachine" "thing" "BadMachine.__init__" (inClass (top 7) 0) B C5 I5)
    {C6 I6 : Addr} (c6 : ClsF K "BadNumber" "thing" "BadNumber.__init__" (inClass (top 8) 0) B C6 I6)
    {C7 I7 : Addr} (c7 : ClsF K "BadText" "at" "BadText.__init__" (inClass (top 9) 0) B C7 I7)
    {C8 I8 : Addr} (c8 : ClsF K "BadPicks" "thing" "BadPicks.__init__" (inClass (top 10) 0) B C8 I8)
    {C9 I9 : Addr} (c9 : ClsF K "BadPlayer" "thing" "BadPlayer.__init__" (inClass (top 11) 0) B C9 I9)
    {C10 I10 : Addr} (c10 : ClsF K "BadShape" "thing" "BadShape.__init__" (inClass (top 12) 0) B C10 I10)
    {C11 I11 : Addr} (c11 : ClsF K "BadStanding" "thing" "BadStanding.__init__" (inClass (top 13) 0) B C11 I11)
    {C12 I12 : Addr} (c12 : ClsF K "BadFormula" "thing" "BadFormula.__init__" (inClass (top 14) 0) B C12 I12)
    {C13 I13 : Addr} (c13 : ClsF K "BadFilling" "thing" "BadFilling.__init__" (inClass (top 15) 0) B C13 I13)
    {C14 I14 : Addr} (c14 : ClsF K "BadTies" "thing" "BadTies.__init__" (inClass (top 16) 0) B C14 I14)
    {C15 I15 : Addr} (c15 : ClsF K "BadStep" "thing" "BadStep.__init__" (inClass (top 17) 0) B C15 I15)
    {C16 I16 : Addr} (c16 : ClsF K "NotOfOne" "thing" "NotOfOne.__init__" (inClass (top 18) 0) B C16 I16)
    {f_sDeck : Addr} (d_sDeck : DefF K "_law_deck" sDeck f_sDeck)
    {f_sDraw : Addr} (d_sDraw : DefF K "_law_draw" sDraw f_sDraw)
    {f_sPick : Addr} (d_sPick : DefF K "_law_pick" sPick f_sPick)
    {f_sAny : Addr} (d_sAny : DefF K "_law_any" sAny f_sAny)
    {f_sByPos : Addr} (d_sByPos : DefF K "_law_by_position" sByPos f_sByPos)
    {f_sByName : Addr} (d_sByName : DefF K "_law_by_name" sByName f_sByName)
    {f_sClasses : Addr} (d_sClasses : DefF K "_law_classes" sClasses f_sClasses)
    {f_sIsOwn : Addr} (d_sIsOwn : DefF K "_law_is_own" sIsOwn f_sIsOwn)
    {f_sRaise : Addr} (d_sRaise : DefF K "_law_raise" sRaise f_sRaise)
    {f_sCaught : Addr} (d_sCaught : DefF K "_law_caught" sCaught f_sCaught)
    {f_sCaughtB : Addr} (d_sCaughtB : DefF K "_law_caught_as_base" sCaughtB f_sCaughtB)
    {f_sCarried : Addr} (d_sCarried : DefF K "_law_carried" sCarried f_sCarried)
    {f_sLaw : Addr} (d_sLaw : DefF K "law" sLaw f_sLaw)
    (z_int : nsIn K mainGlobals "int" = some none)
    (z_list : nsIn K mainGlobals "list" = some none)
    (z_max : nsIn K mainGlobals "max" = some none)
    (z_len : nsIn K mainGlobals "len" = some none)
    (z_range : nsIn K mainGlobals "range" = some none)
    (z_tuple : nsIn K mainGlobals "tuple" = some none)
    (z_repr : nsIn K mainGlobals "repr" = some none)
    (z_enumerate : nsIn K mainGlobals "enumerate" = some none)
    (z_isinstance : nsIn K mainGlobals "isinstance" = some none)
    (z_Exception : nsIn K mainGlobals "Exception" = some none)
    (z_ValueError : nsIn K mainGlobals "ValueError" = some none)
    (z_TypeError : nsIn K mainGlobals "TypeError" = some none)
    (z_LookupError : nsIn K mainGlobals "LookupError" = some none)
    (z_ArithmeticError : nsIn K mainGlobals "ArithmeticError" = some none)
    (z_RuntimeError : nsIn K mainGlobals "RuntimeError" = some none)
    (z_AttributeError : nsIn K mainGlobals "AttributeError" = some none)
    : ∃ fd : FuncData, (∀ (s : Shared) (u : Value), BindsTo s fd ⟨[u], []⟩ [("script", u)]) ∧ ∀ base : Heap, K.In base → base.Ns mainGlobals mg → SysB base → LawAt l.prog w K mg base fa fd ["script"] (spLaw K) := by
  have mz : ∀ {x : Str}, nsIn K mainGlobals x = some none → mg x = none := fun z => PySem.W.mg_none_of X G z
  have T : Blt mg := ⟨mz z_int, mz z_list, mz z_max, mz z_len, mz z_range, mz z_tuple, mz z_repr⟩
  have Kd : Kinds mg := ⟨mz z_isinstance, mz z_Exception, mz z_ValueError, mz z_TypeError, mz z_LookupError, mz z_ArithmeticError, mz z_RuntimeError, mz z_AttributeError⟩
  have e := hfa.symm.trans (PySem.W.mg_of X G d_sLaw.a)
  cases e
  obtain ⟨fd_sDeck, F_sDeck⟩ := d_sDeck.fn
  have b_sDeck : Binds K fd_sDeck ["script", "seed"] [] := F_sDeck.binds fun _ _ _ _ _ _ us hl => match us, hl with | [_, _], _ => rfl
  have m_sDeck := PySem.W.mg_of X G d_sDeck.a
  obtain ⟨fd_sDraw, F_sDraw⟩ := d_sDraw.fn
  have b_sDraw : Binds K fd_sDraw ["deck", "many"] [] := F_sDraw.binds fun _ _ _ _ _ _ us hl => match us, hl with | [_, _], _ => rfl
  have m_sDraw := PySem.W.mg_of X G d_sDraw.a
  obtain ⟨fd_sPick, F_sPick⟩ := d_sPick.fn
  have b_sPick : Binds K fd_sPick ["deck", "some"] [] := F_sPick.binds fun _ _ _ _ _ _ us hl => match us, hl with | [_, _], _ => rfl
  have m_sPick := PySem.W.mg_of X G d_sPick.a
  obtain ⟨fd_sAny, F_sAny⟩ := d_sAny.fn
  have b_sAny : Binds K fd_sAny ["deck", "deep"] [] := F_sAny.binds fun _ _ _ _ _ _ us hl => match us, hl with | [_, _], _ => rfl
  have m_sAny := PySem.W.mg_of X G d_sAny.a
  obtain ⟨fd_sByPos, F_sByPos⟩ := d_sByPos.fn
  have b_sByPos : Binds K fd_sByPos ["it"] [] := F_sByPos.binds fun _ _ _ _ _ _ us hl => match us, hl with | [_], _ => rfl
  have m_sByPos := PySem.W.mg_of X G d_sByPos.a
  obtain ⟨fd_sByName, F_sByName⟩ := d_sByName.fn
  have b_sByName : Binds K fd_sByName ["it"] [] := F_sByName.binds fun _ _ _ _ _ _ us hl => match us, hl with | [_], _ => rfl
  have m_sByName := PySem.W.mg_of X G d_sByName.a
  obtain ⟨fd_sClasses, F_sClasses⟩ := d_sClasses.fn
  have b_sClasses : Binds K fd_sClasses ["error"] [] := F_sClasses.binds fun _ _ _ _ _ _ us hl => match us, hl with | [_], _ => rfl
  have m_sClasses := PySem.W.mg_of X G d_sClasses.a
  obtain ⟨fd_sIsOwn, F_sIsOwn⟩ := d_sIsOwn.fn
  have b_sIsOwn : Binds K fd_sIsOwn ["at", "error"] [] := F_sIsOwn.binds fun _ _ _ _ _ _ us hl => match us, hl with | [_, _], _ => rfl
  have m_sIsOwn := PySem.W.mg_of X G d_sIsOwn.a
  obtain ⟨fd_sRaise, F_sRaise⟩ := d_sRaise.fn
  have b_sRaise : Binds K fd_sRaise ["way", "it"] [] := F_sRaise.binds fun _ _ _ _ _ _ us hl => match us, hl with | [_, _], _ => rfl
  have m_sRaise := PySem.W.mg_of X G d_sRaise.a
  obtain ⟨fd_sCaught, F_sCaught⟩ := d_sCaught.fn
  have b_sCaught : Binds K fd_sCaught ["way", "it"] [] := F_sCaught.binds fun _ _ _ _ _ _ us hl => match us, hl with | [_, _], _ => rfl
  have m_sCaught := PySem.W.mg_of X G d_sCaught.a
  obtain ⟨fd_sCaughtB, F_sCaughtB⟩ := d_sCaughtB.fn
  have b_sCaughtB : Binds K fd_sCaughtB ["way", "it"] [] := F_sCaughtB.binds fun _ _ _ _ _ _ us hl => match us, hl with | [_, _], _ => rfl
  have m_sCaughtB := PySem.W.mg_of X G d_sCaughtB.a
  obtain ⟨fd_sCarried, F_sCarried⟩ := d_sCarried.fn
  have b_sCarried : Binds K fd_sCarried ["made"] [] := F_sCarried.binds fun _ _ _ _ _ _ us hl => match us, hl with | [_], _ => rfl
  have m_sCarried := PySem.W.mg_of X G d_sCarried.a
  obtain ⟨fd_sLaw, F_sLaw⟩ := d_sLaw.fn
  have b_sLaw : Binds K fd_sLaw ["script"] [] := F_sLaw.binds fun _ _ _ _ _ _ us hl => match us, hl with | [_], _ => rfl
  have m_sLaw := PySem.W.mg_of X G d_sLaw.a
  refine ⟨fd_sLaw, ?_, fun base _ _ sys => ?_⟩
  · intro s u
    have := b_sLaw
    obtain ⟨_, _, _, _, _, _, _, _, _, rfl, _⟩ := F_sLaw.ex
    exact .of_eq rfl
  have Es : Errs l.prog w K mg base B (pick17 [C0, C1, C2, C3, C4, C5, C6, C7, C8, C9, C10, C11, C12, C13, C14, C15, C16]) := by
    refine ⟨bs, ?_, ?_, gk⟩
    · intro i hi
      match i, hi with
      | 0, _ => obtain ⟨_, F⟩ := c0.fn; exact ini_0 F (c0.err X G) c0.iC c0.tI c0.no bs
      | 1, _ => obtain ⟨_, F⟩ := c1.fn; exact ini_1 F (c1.err X G) c1.iC c1.tI c1.no bs
      | 2, _ => obtain ⟨_, F⟩ := c2.fn; exact ini_2 F (c2.err X G) c2.iC c2.tI c2.no bs
      | 3, _ => obtain ⟨_, F⟩ := c3.fn; exact ini_3 F (c3.err X G) c3.iC c3.tI c3.no bs
      | 4, _ => obtain ⟨_, F⟩ := c4.fn; exact ini_4 F (c4.err X G) c4.iC c4.tI c4.no bs
      | 5, _ => obtain ⟨_, F⟩ := c5.fn; exact ini_5 F (c5.err X G) c5.iC c5.tI c5.no bs
      | 6, _ => obtain ⟨_, F⟩ := c6.fn; exact ini_6 F (c6.err X G) c6.iC c6.tI c6.no bs
      | 7, _ => obtain ⟨_, F⟩ := c7.fn; exact ini_7 F (c7.err X G) c7.iC c7.tI c7.no bs
      | 8, _ => obtain ⟨_, F⟩ := c8.fn; exact ini_8 F (c8.err X G) c8.iC c8.tI c8.no bs
      | 9, _ => obtain ⟨_, F⟩ := c9.fn; exact ini_9 F (c9.err X G) c9.iC c9.tI c9.no bs
      | 10, _ => obtain ⟨_, F⟩ := c10.fn; exact ini_10 F (c10.err X G) c10.iC c10.tI c10.no bs
      | 11, _ => obtain ⟨_, F⟩ := c11.fn; exact ini_11 F (c11.err X G) c11.iC c11.tI c11.no bs
      | 12, _ => obtain ⟨_, F⟩ := c12.fn; exact ini_12 F (c12.err X G) c12.iC c12.tI c12.no bs
      | 13, _ => obtain ⟨_, F⟩ := c13.fn; exact ini_13 F (c13.err X G) c13.iC c13.tI c13.no bs
      | 14, _ => obtain ⟨_, F⟩ := c14.fn; exact ini_14 F (c14.err X G) c14.iC c14.tI c14.no bs
      | 15, _ => obtain ⟨_, F⟩ := c15.fn; exact ini_15 F (c15.err X G) c15.iC c15.tI c15.no bs
      | n + 16, hn => exact absurd hn (by omega)
    · obtain ⟨_, F⟩ := c16.fn
      exact ini_16 F (c16.err X G) c16.iC c16.tI bs
  have Kdeck : Call1 l.prog w K mg base "_law_deck" 1 ["script", "seed"] (spDeck K) := ⟨_, _, ok_deck F_sDeck T, b_sDeck, F_sDeck.kp, m_sDeck⟩
  have Kdraw : Call1 l.prog w K mg base "_law_draw" 1 ["deck", "many"] spDraw := ⟨_, _, ok_draw F_sDraw T, b_sDraw, F_sDraw.kp, m_sDraw⟩
  have Kpick : Call1 l.prog w K mg base "_law_pick" 2 ["deck", "some"] spPick := ⟨_, _, ok_pick F_sPick T Kdraw, b_sPick, F_sPick.kp, m_sPick⟩
  have any := any_all (P := l.prog) (w := w) (base := base) F_sAny T b_sAny m_sAny Kdraw Kpick
  have GR := ok_raise (P := l.prog) (w := w) (mg := mg) (base := base) F_sRaise Es
  have GCt : Call1 l.prog w K mg base "_law_classes" 1 ["error"] (spClasses (Zt (pick17 [C0, C1, C2, C3, C4, C5, C6, C7, C8, C9, C10, C11, C12, C13, C14, C15, C16]))) := ⟨_, _, ok_classes F_sClasses Es Kd.isi, b_sClasses, F_sClasses.kp, m_sClasses⟩
  have GCp := ok_classesP (P := l.prog) (w := w) (mg := mg) (base := base) F_sClasses Es Kd.isi
  refine ok_law (Cs := pick17 [C0, C1, C2, C3, C4, C5, C6, C7, C8, C9, C10, C11, C12, C13, C14, C15, C16]) F_sLaw T ⟨Kdeck, ⟨_, _, any 3, b_sAny, F_sAny.kp, m_sAny⟩, ⟨_, _, (any 2).mono (by decide), b_sAny, F_sAny.kp, m_sAny⟩, ?_, ?_, ?_, ?_, ?_, ?_, sys, mz z_enumerate⟩
  · exact ⟨_, _, ok_byPos F_sByPos Es, b_sByPos, F_sByPos.kp, m_sByPos⟩
  · exact ⟨_, _, ok_byName F_sByName Es, b_sByName, F_sByName.kp, m_sByName⟩
  · exact ⟨_, _, ok_carried F_sCarried Es, b_sCarried, F_sCarried.kp, m_sCarried⟩
  · exact ⟨_, _, ok_isOwn F_sIsOwn Es Kd T GCt, b_sIsOwn, F_sIsOwn.kp, m_sIsOwn⟩
  · exact ⟨_, _, ok_caught F_sCaught Es Kd.isi GR b_sRaise F_sRaise.kp m_sRaise, b_sCaught, F_sCaught.kp, m_sCaught⟩
  · exact ⟨_, _, ok_caughtB F_sCaughtB Es GR b_sRaise F_sRaise.kp m_sRaise GCp b_sClasses F_sClasses.kp m_sClasses, b_sCaughtB, F_sCaughtB.kp, m_sCaughtB⟩
end Zk

open PySem PySem.W PyProof.Rows in
set_option maxRecDepth 100000 in
set_option maxHeartbeats 0 in
theorem PySem.Challenge.cw_narrowplay_k00_errors_by_position_and_by_holds : PySem.Challenge.rw_narrowplay_k00_errors_by_position_and_by.Holds := by
  w_on; o_law; k_head; (case hw => w_witness2)
  k_fill
  refine Zk.walk_top (l := PySem.Challenge.rw_narrowplay_k00_errors_by_position_and_by) (n := 63) (x := "script") (sp := Zk.spLaw) rfl (by decide) rfl (by decide +kernel) (fun w h Y => PySem.W.kIn_of Y) ?F (fun K H a ns hl _ hS => ⟨a, ns, rfl, hS, hl, fun _ => rfl⟩)
  case F =>
    intro w mg fa h KX G hmg
    refine' Zk.all_mk KX G hmg (Zk.baseC_mk KX G ?gB ?xB ?ty ?ex ?sp ?rd ?fc) ⟨?g1, ?g2⟩
      (Zk.clsF_mk ?gC_0 ?xL_0 ?sa_0 ?ga_0 ?gg_0 ?ca_0 ?exC_0 ?tyC_0 ?kC_0 ?no_0 ?iC_0 ?tI_0 ?l1_0 ?c1_0 ?k1_0)
      (Zk.clsF_mk ?gC_1 ?xL_1 ?sa_1 ?ga_1 ?gg_1 ?ca_1 ?exC_1 ?tyC_1 ?kC_1 ?no_1 ?iC_1 ?tI_1 ?l1_1 ?c1_1 ?k1_1)
      (Zk.clsF_mk ?gC_2 ?xL_2 ?sa_2 ?ga_2 ?gg_2 ?ca_2 ?exC_2 ?tyC_2 ?kC_2 ?no_2 ?iC_2 ?tI_2 ?l1_2 ?c1_2 ?k1_2)
      (Zk.clsF_mk ?gC_3 ?xL_3 ?sa_3 ?ga_3 ?gg_3 ?ca_3 ?exC_3 ?tyC_3 ?kC_3 ?no_3 ?iC_3 ?tI_3 ?l1_3 ?c1_3 ?k1_3)
      (Zk.clsF_mk ?gC_4 ?xL_4 ?sa_4 ?ga_4 ?gg_4 ?ca_4 ?exC_4 ?tyC_4 ?kC_4 ?no_4 ?iC_4 ?tI_4 ?l1_4 ?c1_4 ?k1_4)
      (Zk.clsF_mk ?gC_5 ?xL_5 ?sa_5 ?ga_5 ?gg_5 ?ca_5 ?exC_5 ?tyC_5 ?kC_5 ?no_5 ?iC_5 ?tI_5 ?l1_5 ?c1_5 ?k1_5)
      (Zk.clsF_mk ?gC_6 ?xL_6 ?sa_6 ?ga_6 ?gg_6 ?ca_6 ?exC_6 ?tyC_6 ?kC_6 ?no_6 ?iC_6 ?tI_6 ?l1_6 ?c1_6 ?k1_6)
      (Zk.clsF_mk ?gC_7 ?xL_7 ?sa_7 ?ga_7 ?gg_7 ?ca_7 ?exC_7 ?tyC_7 ?kC_7 ?no_7 ?iC_7 ?tI_7 ?l1_7 ?c1_7 ?k1_7)
      (Zk.clsF_mk ?gC_8 ?xL_8 ?sa_8 ?ga_8 ?gg_8 ?ca_8 ?exC_8 ?tyC_8 ?kC_8 ?no_8 ?iC_8 ?tI_8 ?l1_8 ?c1_8 ?k1_8)
      (Zk.clsF_mk ?gC_9 ?xL_9 ?sa_9 ?ga_9 ?gg_9 ?ca_9 ?exC_9 ?tyC_9 ?kC_9 ?no_9 ?iC_9 ?tI_9 ?l1_9 ?c1_9 ?k1_9)
      (Zk.clsF_mk ?gC_10 ?xL_10 ?sa_10 ?ga_10 ?gg_10 ?ca_10 ?exC_10 ?tyC_10 ?kC_10 ?no_10 ?iC_10 ?tI_10 ?l1_10 ?c1_10 ?k1_10)
      (Zk.clsF_mk ?gC_11 ?xL_11 ?sa_11 ?ga_11 ?gg_11 ?ca_11 ?exC_11 ?tyC_11 ?kC_11 ?no_11 ?iC_11 ?tI_11 ?l1_11 ?c1_11 ?k1_11)
      (Zk.clsF_mk ?gC_12 ?xL_12 ?sa_12 ?ga_12 ?gg_12 ?ca_12 ?exC_12 ?tyC_12 ?kC_12 ?no_12 ?iC_12 ?tI_12 ?l1_12 ?c1_12 ?k1_12)
      (Zk.clsF_mk ?gC_13 ?xL_13 ?sa_13 ?ga_13 ?gg_13 ?ca_13 ?exC_13 ?tyC_13 ?kC_13 ?no_13 ?iC_13 ?tI_13 ?l1_13 ?c1_13 ?k1_13)
      (Zk.clsF_mk ?gC_14 ?xL_14 ?sa_14 ?ga_14 ?gg_14 ?ca_14 ?exC_14 ?tyC_14 ?kC_14 ?no_14 ?iC_14 ?tI_14 ?l1_14 ?c1_14 ?k1_14)
      (Zk.clsF_mk ?gC_15 ?xL_15 ?sa_15 ?ga_15 ?gg_15 ?ca_15 ?exC_15 ?tyC_15 ?kC_15 ?no_15 ?iC_15 ?tI_15 ?l1_15 ?c1_15 ?k1_15)
      (Zk.clsF_mk ?gC_16 ?xL_16 ?sa_16 ?ga_16 ?gg_16 ?ca_16 ?exC_16 ?tyC_16 ?kC_16 ?no_16 ?iC_16 ?tI_16 ?l1_16 ?c1_16 ?k1_16)
      (Zk.defF_mk ?a_sDeck ?l_sDeck ?c_sDeck ?k_sDeck)
      (Zk.defF_mk ?a_sDraw ?l_sDraw ?c_sDraw ?k_sDraw)
      (Zk.defF_mk ?a_sPick ?l_sPick ?c_sPick ?k_sPick)
      (Zk.defF_mk ?a_sAny ?l_sAny ?c_sAny ?k_sAny)
      (Zk.defF_mk ?a_sByPos ?l_sByPos ?c_sByPos ?k_sByPos)
      (Zk.defF_mk ?a_sByName ?l_sByName ?c_sByName ?k_sByName)
      (Zk.defF_mk ?a_sClasses ?l_sClasses ?c_sClasses ?k_sClasses)
      (Zk.defF_mk ?a_sIsOwn ?l_sIsOwn ?c_sIsOwn ?k_sIsOwn)
      (Zk.defF_mk ?a_sRaise ?l_sRaise ?c_sRaise ?k_sRaise)
      (Zk.defF_mk ?a_sCaught ?l_sCaught ?c_sCaught ?k_sCaught)
      (Zk.defF_mk ?a_sCaughtB ?l_sCaughtB ?c_sCaughtB ?k_sCaughtB)
      (Zk.defF_mk ?a_sCarried ?l_sCarried ?c_sCarried ?k_sCarried)
      (Zk.defF_mk ?a_sLaw ?l_sLaw ?c_sLaw ?k_sLaw)
      ?z_int ?z_list ?z_max ?z_len ?z_range ?z_tuple ?z_repr ?z_enumerate ?z_isinstance ?z_Exception ?z_ValueError ?z_TypeError ?z_LookupError ?z_ArithmeticError ?z_RuntimeError ?z_AttributeError
    (case gB => k_is)
    (case xB => k_is)
    (case ty => k_is)
    (case ex => k_is)
    (case sp => k_is)
    (case rd => k_is)
    (case fc => k_is)
    (case g1 => k_is)
    (case g2 => k_is)
    (case gC_0 => k_is)
    (case xL_0 => k_is)
    (case sa_0 => k_is)
    (case ga_0 => k_is)
    (case gg_0 => k_is)
    (case ca_0 => k_is)
    (case exC_0 => k_is)
    (case tyC_0 => k_is)
    (case kC_0 => k_is)
    (case no_0 => k_is)
    (case iC_0 => k_is)
    (case tI_0 => k_is)
    (case l1_0 => k_is)
    (case c1_0 => k_is)
    (case k1_0 => k_is)
    (case gC_1 => k_is)
    (case xL_1 => k_is)
    (case sa_1 => k_is)
    (case ga_1 => k_is)
    (case gg_1 => k_is)
    (case ca_1 => k_is)
    (case exC_1 => k_is)
    (case tyC_1 => k_is)
    (case kC_1 => k_is)
    (case no_1 => k_is)
    (case iC_1 => k_is)
    (case tI_1 => k_is)
    (case l1_1 => k_is)
    (case c1_1 => k_is)
    (case k1_1 => k_is)
    (case gC_2 => k_is)
    (case xL_2 => k_is)
    (case sa_2 => k_is)
    (case ga_2 => k_is)
    (case gg_2 => k_is)
    (case ca_2 => k_is)
    (case exC_2 => k_is)
    (case tyC_2 => k_is)
    (case kC_2 => k_is)
    (case no_2 => k_is)
    (case iC_2 => k_is)
    (case tI_2 => k_is)
    (case l1_2 => k_is)
    (case c1_2 => k_is)
    (case k1_2 => k_is)
    (case gC_3 => k_is)
    (case xL_3 => k_is)
    (case sa_3 => k_is)
    (case ga_3 => k_is)
    (case gg_3 => k_is)
    (case ca_3 => k_is)
    (case exC_3 => k_is)
    (case tyC_3 => k_is)
    (case kC_3 => k_is)
    (case no_3 => k_is)
    (case iC_3 => k_is)
    (case tI_3 => k_is)
    (case l1_3 => k_is)
    (case c1_3 => k_is)
    (case k1_3 => k_is)
    (case gC_4 => k_is)
    (case xL_4 => k_is)
    (case sa_4 => k_is)
    (case ga_4 => k_is)
    (case gg_4 => k_is)
    (case ca_4 => k_is)
    (case exC_4 => k_is)
    (case tyC_4 => k_is)
    (case kC_4 => k_is)
    (case no_4 => k_is)
    (case iC_4 => k_is)
    (case tI_4 => k_is)
    (case l1_4 => k_is)
    (case c1_4 => k_is)
    (case k1_4 => k_is)
    (case gC_5 => k_is)
    (case xL_5 => k_is)
    (case sa_5 => k_is)
    (case ga_5 => k_is)
    (case gg_5 => k_is)
    (case ca_5 => k_is)
    (case exC_5 => k_is)
    (case tyC_5 => k_is)
    (case kC_5 => k_is)
    (case no_5 => k_is)
    (case iC_5 => k_is)
    (case tI_5 => k_is)
    (case l1_5 => k_is)
    (case c1_5 => k_is)
    (case k1_5 => k_is)
    (case gC_6 => k_is)
    (case xL_6 => k_is)
    (case sa_6 => k_is)
    (case ga_6 => k_is)
    (case gg_6 => k_is)
    (case ca_6 => k_is)
    (case exC_6 => k_is)
    (case tyC_6 => k_is)
    (case kC_6 => k_is)
    (case no_6 => k_is)
    (case iC_6 => k_is)
    (case tI_6 => k_is)
    (case l1_6 => k_is)
    (case c1_6 => k_is)
    (case k1_6 => k_is)
    (case gC_7 => k_is)
    (case xL_7 => k_is)
    (case sa_7 => k_is)
    (case ga_7 => k_is)
    (case gg_7 => k_is)
    (case ca_7 => k_is)
    (case exC_7 => k_is)
    (case tyC_7 => k_is)
    (case kC_7 => k_is)
    (case no_7 => k_is)
    (case iC_7 => k_is)
    (case tI_7 => k_is)
    (case l1_7 => k_is)
    (case c1_7 => k_is)
    (case k1_7 => k_is)
    (case gC_8 => k_is)
    (case xL_8 => k_is)
    (case sa_8 => k_is)
    (case ga_8 => k_is)
    (case gg_8 => k_is)
    (case ca_8 => k_is)
    (case exC_8 => k_is)
    (case tyC_8 => k_is)
    (case kC_8 => k_is)
    (case no_8 => k_is)
    (case iC_8 => k_is)
    (case tI_8 => k_is)
    (case l1_8 => k_is)
    (case c1_8 => k_is)
    (case k1_8 => k_is)
    (case gC_9 => k_is)
    (case xL_9 => k_is)
    (case sa_9 => k_is)
    (case ga_9 => k_is)
    (case gg_9 => k_is)
    (case ca_9 => k_is)
    (case exC_9 => k_is)
    (case tyC_9 => k_is)
    (case kC_9 => k_is)
    (case no_9 => k_is)
    (case iC_9 => k_is)
    (case tI_9 => k_is)
    (case l1_9 => k_is)
    (case c1_9 => k_is)
    (case k1_9 => k_is)
    (case gC_10 => k_is)
    (case xL_10 => k_is)
    (case sa_10 => k_is)
    (case ga_10 => k_is)
    (case gg_10 => k_is)
    (case ca_10 => k_is)
    (case exC_10 => k_is)
    (case tyC_10 => k_is)
    (case kC_10 => k_is)
    (case no_10 => k_is)
    (case iC_10 => k_is)
    (case tI_10 => k_is)
    (case l1_10 => k_is)
    (case c1_10 => k_is)
    (case k1_10 => k_is)
    (case gC_11 => k_is)
    (case xL_11 => k_is)
    (case sa_11 => k_is)
    (case ga_11 => k_is)
    (case gg_11 => k_is)
    (case ca_11 => k_is)
    (case exC_11 => k_is)
    (case tyC_11 => k_is)
    (case kC_11 => k_is)
    (case no_11 => k_is)
    (case iC_11 => k_is)
    (case tI_11 => k_is)
    (case l1_11 => k_is)
    (case c1_11 => k_is)
    (case k1_11 => k_is)
    (case gC_12 => k_is)
    (case xL_12 => k_is)
    (case sa_12 => k_is)
    (case ga_12 => k_is)
    (case gg_12 => k_is)
    (case ca_12 => k_is)
    (case exC_12 => k_is)
    (case tyC_12 => k_is)
    (case kC_12 => k_is)
    (case no_12 => k_is)
    (case iC_12 => k_is)
    (case tI_12 => k_is)
    (case l1_12 => k_is)
    (case c1_12 => k_is)
    (case k1_12 => k_is)
    (case gC_13 => k_is)
    (case xL_13 => k_is)
    (case sa_13 => k_is)
    (case ga_13 => k_is)
    (case gg_13 => k_is)
    (case ca_13 => k_is)
    (case exC_13 => k_is)
    (case tyC_13 => k_is)
    (case kC_13 => k_is)
    (case no_13 => k_is)
    (case iC_13 => k_is)
    (case tI_13 => k_is)
    (case l1_13 => k_is)
    (case c1_13 => k_is)
    (case k1_13 => k_is)
    (case gC_14 => k_is)
    (case xL_14 => k_is)
    (case sa_14 => k_is)
    (case ga_14 => k_is)
    (case gg_14 => k_is)
    (case ca_14 => k_is)
    (case exC_14 => k_is)
    (case tyC_14 => k_is)
    (case kC_14 => k_is)
    (case no_14 => k_is)
    (case iC_14 => k_is)
    (case tI_14 => k_is)
    (case l1_14 => k_is)
    (case c1_14 => k_is)
    (case k1_14 => k_is)
    (case gC_15 => k_is)
    (case xL_15 => k_is)
    (case sa_15 => k_is)
    (case ga_15 => k_is)
    (case gg_15 => k_is)
    (case ca_15 => k_is)
    (case exC_15 => k_is)
    (case tyC_15 => k_is)
    (case kC_15 => k_is)
    (case no_15 => k_is)
    (case iC_15 => k_is)
    (case tI_15 => k_is)
    (case l1_15 => k_is)
    (case c1_15 => k_is)
    (case k1_15 => k_is)
    (case gC_16 => k_is)
    (case xL_16 => k_is)
    (case sa_16 => k_is)
    (case ga_16 => k_is)
    (case gg_16 => k_is)
    (case ca_16 => k_is)
    (case exC_16 => k_is)
    (case tyC_16 => k_is)
    (case kC_16 => k_is)
    (case no_16 => k_is)
    (case iC_16 => k_is)
    (case tI_16 => k_is)
    (case l1_16 => k_is)
    (case c1_16 => k_is)
    (case k1_16 => k_is)
    (case a_sDeck => k_is)
    (case l_sDeck => k_is)
    (case c_sDeck => k_is)
    (case k_sDeck => k_is)
    (case a_sDraw => k_is)
    (case l_sDraw => k_is)
    (case c_sDraw => k_is)
    (case k_sDraw => k_is)
    (case a_sPick => k_is)
    (case l_sPick => k_is)
    (case c_sPick => k_is)
    (case k_sPick => k_is)
    (case a_sAny => k_is)
    (case l_sAny => k_is)
    (case c_sAny => k_is)
    (case k_sAny => k_is)
    (case a_sByPos => k_is)
    (case l_sByPos => k_is)
    (case c_sByPos => k_is)
    (case k_sByPos => k_is)
    (case a_sByName => k_is)
    (case l_sByName => k_is)
    (case c_sByName => k_is)
    (case k_sByName => k_is)
    (case a_sClasses => k_is)
    (case l_sClasses => k_is)
    (case c_sClasses => k_is)
    (case k_sClasses => k_is)
    (case a_sIsOwn => k_is)
    (case l_sIsOwn => k_is)
    (case c_sIsOwn => k_is)
    (case k_sIsOwn => k_is)
    (case a_sRaise => k_is)
    (case l_sRaise => k_is)
    (case c_sRaise => k_is)
    (case k_sRaise => k_is)
    (case a_sCaught => k_is)
    (case l_sCaught => k_is)
    (case c_sCaught => k_is)
    (case k_sCaught => k_is)
    (case a_sCaughtB => k_is)
    (case l_sCaughtB => k_is)
    (case c_sCaughtB => k_is)
    (case k_sCaughtB => k_is)
    (case a_sCarried => k_is)
    (case l_sCarried => k_is)
    (case c_sCarried => k_is)
    (case k_sCarried => k_is)
    (case a_sLaw => k_is)
    (case l_sLaw => k_is)
    (case c_sLaw => k_is)
    (case k_sLaw => k_is)
    (case z_int => k_is)
    (case z_list => k_is)
    (case z_max => k_is)
    (case z_len => k_is)
    (case z_range => k_is)
    (case z_tuple => k_is)
    (case z_repr => k_is)
    (case z_enumerate => k_is)
    (case z_isinstance => k_is)
    (case z_Exception => k_is)
    (case z_ValueError => k_is)
    (case z_TypeError => k_is)
    (case z_LookupError => k_is)
    (case z_ArithmeticError => k_is)
    (case z_RuntimeError => k_is)
    (case z_AttributeError => k_is)

