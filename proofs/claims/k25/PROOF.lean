import PyProof.Rows.All
import Wide.All
import OpenK.AllK
import Wide.FinOn
import PyProof.GenCompD
import PyProof.WalksMore
import HandS.ForMost
import HandS.EndTab
import HandS.EndOwn
import HandS.AnyAll
import HandS.IsInst
import PyProof.ReprRoads
import KE.KIndexOf
import KE.KRevSl
import HandS.Conv
import HandS.Style
import KE.KNest
import KE.DataEq
import KE.GoesEnum
import KE.GoesMore
import HandS.Zip
import KE.GoesZip
import KE.GoesNew
import HandS.Walk
import HandS.TupAny
import KE.DataMinMax
import PySem.Challenge.RW_lowerboards_k25_whole_corners_counted
set_option Elab.async false
set_option linter.all false
set_option maxRecDepth 100000
set_option maxHeartbeats 2000000
namespace Lb
open PySem PySem.Spec PyProof.Rows L2 GxR

section
variable {X : Cx} {pins : List (Addr × Obj)} {σ : L2.St} {H : Hp} {s : Shared}

/-- the element of a generator expression: a test of the item v, told for any frame of it -/
def EltD (X : Cx) (scope : Scope) (x : Str) (elt : Expr) (ok : V → Prop) (pb : V → Bool) : Prop :=
  ∀ (cenv : Env) (A' : Around) (E' : Value → Shared → Prop) (v : V) (u : Value) (s₂ : Shared) (m₂ : Str → Option Value),
    L2.Mod X.K X.mg X.base → RelV v u → ok v → A'.handled = none → A'.depth ≤ X.A.depth + 1 → A'.units ≤ X.A.units + 8 → cenv.scope = scope → cenv.globals = mainGlobals → cenv.builtins = builtinsNs →
    (∀ b o, X.base.get? b = some o → s₂.heap.get? b = some o) → s₂.heap.Ns cenv.locals m₂ → m₂ x = some u →
    wpAny (model X.prog X.w) A' (eval elt cenv) (fun y s₃ => y = .bool (pb v) ∧ Keeps s₂ s₃) E' s₂

def trL (pb : V → Bool) (l : List V) (j : Nat) : Bool := (l[j]?.map pb).getD false
theorem trL_some {pb : V → Bool} {l : List V} {j : Nat} {b : V} (h : l[j]? = some b) : trL pb l j = pb b := by
  unfold trL
  rw [h]
  rfl
theorem all_trL (pb : V → Bool) : ∀ l : List V, (List.range l.length).all (trL pb l) = l.all pb
  | [] => rfl
  | b :: r => by
    rw [List.length_cons, List.range_succ_eq_map, List.all_cons, List.all_map, List.all_cons, ← all_trL pb r]
    rfl

/-- the generator at g yields a truth for each item of xs; once it has been walked, the heap is as it was but for its def's table -/
def ReadyL (X : Cx) (pins : List (Addr × Obj)) (σ : L2.St) (H1 : Hp) (P : Addr) (xs : List V) (pb : V → Bool) (g : Addr) (s5 : Shared) : Prop :=
  ∃ fp wr Gs Yl At, WalksS X.prog X.w X.A.in1 g fp wr Gs xs.length Yl At ∧ At 0 s5 ∧ TruthOf X.prog X.w X.A.in1 Yl (trL pb xs) ∧ ∀ z, Moved wr Gs s5 z → ∃ H2, Tabbed P H1 H2 ∧ Inv X pins σ H2 z

/-- a list or a tuple, as it is read -/
def SeqLT (K : PySem.W.Frag) (H : Hp) (a : Addr) (xs : List V) : Prop := SqL K H a xs ∨ SqT K H a xs

/-- what the iterator over a seq at a is, as the generator sees it: the iterator is the next object, o -/
structure Feed (P : Program) (w : World) (h : Heap) (a : Addr) (xs : List V) (o : Obj) (its : List Value) (At : Nat → Heap → Prop) : Prop where
  rel : Vals xs its
  low : a < h.objs.size
  cls : ∀ p u, h.get? p = some u → u.cls = .none → p ≠ a
  walk : ∀ B : Around, B.handled = none → Walks P w B h.objs.size [h.objs.size, a] [h.objs.size] xs.length (fun i v => its[i]? = some v) At
  at0 : At 0 (h.push o)
theorem iter_seq {a : Addr} {xs : List V} {Q : Value → Shared → Prop} {E : Value → Shared → Prop} (I : Inv X pins σ H s) (hq : SeqLT X.K H a xs)
    (done : ∀ o its At, Feed X.prog X.w s.heap a xs o its At → Q (.ref s.heap.objs.size) { s with heap := s.heap.push o }) : wpAny (model X.prog X.w) X.A (pyIter (.ref a)) Q E s := by
  rcases hq with hq | hq
  · obtain ⟨its, rel, laid, _⟩ := I.list hq
    have isL := laid.isList
    obtain ⟨oa, ga, ca, _⟩ := id isL
    have nsz : its.toArray.size = xs.length := by rw [List.size_toArray, rel.length]
    refine wpAny_pyIter_list isL (done _ its (fun i m => m.IsListIter s.heap.objs.size a i ∧ m.IsList a its.toArray) ⟨rel, Heap.lt_size ga, fun p u gp cp e => ?_, fun B hB => ?_, ⟨⟨_, Heap.get?_push_size _ rfl, rfl, rfl⟩, isL.push _⟩⟩)
    · rw [e, ga] at gp
      cases gp
      rw [cp] at ca
      cases ca
    · have W := Walks.list (prog := X.prog) (w := X.w) hB s.heap.objs.size a (Nat.ne_of_lt (Heap.lt_size ga)) its.toArray
      rw [nsz] at W
      simpa using W
  · obtain ⟨its, rel, laid, _⟩ := I.tuple hq
    have isT : s.heap.IsTuple a its.toArray := laid
    obtain ⟨oa, ga, ca, _⟩ := id isT
    have nsz : its.toArray.size = xs.length := by rw [List.size_toArray, rel.length]
    refine wpAny_pyIter_tuple isT (done _ its (fun i m => m.IsTupleIter s.heap.objs.size a i ∧ m.IsTuple a its.toArray) ⟨rel, Heap.lt_size ga, fun p u gp cp e => ?_, fun B hB => ?_, ⟨⟨_, Heap.get?_push_size _ rfl, rfl, rfl⟩, isT.at fun _ e => Heap.get?_push_of_some _ e⟩⟩)
    · rw [e, ga] at gp
      cases gp
      rw [cp] at ca
      cases ca
    · have W := Walks.tuple (prog := X.prog) (w := X.w) hB s.heap.objs.size a (Nat.ne_of_lt (Heap.lt_size ga)) its.toArray
      rw [nsz] at W
      simpa using W

/-- the generator expression's code object is the one in the def's table, or one that is put there -/
theorem code_in_table {env : Env} {c P : Addr} {tab : Array Value} {pos : Pos} {qn : Str} {scope : Scope} {Q : Value → Shared → Prop} {E : Value → Shared → Prop} {P0 : Program} {w0 : World} {A : Around} (hc : env.code = .ref c) (cd : PySem.W.CodeHd s.heap c P)
    (gP : s.heap.get? P = some { cls := .none, data := .fields tab }) (tr : TriplesOk tab.toList)
    (done : ∀ code h' tk more, Heap.ExtBut P s.heap h' → s.heap.objs.size ≤ h'.objs.size → h'.get? P = some { cls := .none, data := .fields (tab ++ more) } → TriplesOk (tab ++ more).toList → Q code { s with heap := h', toks := tk }) :
    wpAny (model P0 w0) A (genexprCode env pos qn scope) Q E s := by
  match q : codeAmong pos tab.toList with
  | some k => exact wpAny_genexprCode_hit hc (cd.code gP tr) q (done k s.heap s.toks #[] (.refl _ _) (Nat.le_refl _) (by rw [Array.append_empty]; exact gP) (by rw [Array.append_empty]; exact tr))
  | none =>
    refine wpAny_genexprCodeX hc (cd.code gP tr) (cd.tab gP) q fun k h' tk ext ge lt is _ at_ _ => ?_
    obtain ⟨_, _, _, _, _, _, _, _, _, _, _, _, _, _, _, _, _, _, _, tr', _⟩ := is
    exact done _ h' tk _ ext (Nat.le_of_lt (Nat.lt_of_le_of_lt ge lt)) at_.2 tr'

theorem gen_seq {c P : Addr} {elt iter : Expr} {x : Str} {px gpos : Pos} {scope : Scope} {ok : V → Prop} {pb : V → Bool} {te : TE} {k : Nat} {Q' : Value → Shared → Prop} {R : List V → Hp → Prop}
    (room : Room k X.A) (TB : GxR.TabB X.base X.mg c P) (own : X.env.code = .ref c) (S : GenS X.env scope x) (src : PE X iter te) (hel : EltD X scope x elt ok pb) (nofold : ∀ v, genFold iter X.env v = pure v) (I : Inv X pins σ H s)
    (h : te σ H fun v H1 => ∃ (a : Addr) (xs : List V), v = .ref a ∧ SeqLT X.K H1 a xs ∧ (∀ v ∈ xs, ok v) ∧ TabG H1 P ∧ R xs H1) (hQ : ∀ xs H1 g s5, R xs H1 → ReadyL X pins σ H1 P xs pb g s5 → Q' (.ref g) s5) :
    wpAny (model X.prog X.w) X.A (eval (.GeneratorExp elt [⟨.Name x px, iter, [], 0⟩] scope gpos) X.env) Q' X.xe s := by
  have deep : X.A.depth < recursionLimit := by have := room.dp; omega
  refine wpAny_GeneratorExp_walksQD room.hd S.co (closure_ok S.free) S.cell S.dot S.loc S.kind deep (thn (src.run pins s σ H _ I h) fun u0 s1 ⟨v0, H1, I1, r0, a, xs, e0, hq, oks, ⟨tab, tP, tr⟩, hR⟩ => ?_) nofold
  subst e0
  cases (show u0 = Value.ref a from r0)
  refine iter_seq I1 hq fun o its At F => ?_
  -- the table's own place, and what stands elsewhere
  have gP : s1.heap.get? P = some { cls := .none, data := .fields tab } := I1.hok P _ tP
  have lowP := Heap.lt_size gP
  have grow : ∀ b u, s1.heap.get? b = some u → (s1.heap.push o).get? b = some u := fun b u e => Heap.get?_push_of_some _ e
  have nl := I1.nolimit.push o
  have stat : cStatics < s1.heap.objs.size ∧ cStatics ≠ P := by
    obtain ⟨_, ns, _⟩ := I1.nolimit
    refine ⟨ns.lt, fun e => ?_⟩
    obtain ⟨ob, _, _, g, d, _⟩ := ns
    rw [e, gP] at g
    cases g
    cases d
  refine ⟨nl, code_in_table own (TB.code.keeps fun b u e => grow b u (I1.bk b u e)) (grow P _ gP) tr fun code h3 tk more ext big gP3 tr3 => ?_⟩
  have szo : (s1.heap.push o).objs.size = s1.heap.objs.size + 1 := Heap.size_push ..
  have room3 : s1.heap.objs.size < h3.objs.size := by
    have b2 := big
    rw [szo] at b2
    exact b2
  have stays : ∀ b u, b ≠ P → s1.heap.get? b = some u → h3.get? b = some u := fun b u nb e => ext b u nb (grow b u e)
  have based : ∀ b u, X.base.get? b = some u → b ≠ P ∧ s1.heap.get? b = some u := fun b u e => by
    refine ⟨fun z => ?_, I1.bk b u e⟩
    have no := (I1.bs b u e).2
    rw [z, tP] at no
    cases no
  obtain ⟨bm, ob, b1, b2, b3, b4, b5, b6, b7, b8⟩ := TB.bm
  refine wpAny_builtinsFor (m := X.mg) (by rw [I1.ok.glob]; exact Heap.Ns.extBut ((I1.mod.glob.keeps I1.bk).push o) ext TB.gP) b1 b2 (stays _ _ b4 (I1.bk _ _ b5)) b6 b7 b8 ?_
  have foot : ∀ b ∈ [s1.heap.objs.size, a], b ≠ P ∧ b < h3.objs.size := fun b hb => by
    simp only [List.mem_cons, List.not_mem_nil, or_false] at hb
    rcases hb with e | e <;> rw [e]
    · exact ⟨(Nat.ne_of_lt lowP).symm, room3⟩
    · exact ⟨(F.cls P _ gP rfl).symm, Nat.lt_trans F.low room3⟩
  refine ⟨_, _, [s1.heap.objs.size], xs.length, fun i y => its[i]? = some y, At, fun _ => true, fun i y => ∃ d, xs[i]? = some d ∧ y = .bool (pb d), rfl, F.walk, ?_, fun b hb => (foot b hb).2, nl.extBut ext stat.2, fun e => Nat.ne_of_lt stat.1 (List.mem_singleton.mp e), fun later kept => ⟨?_, ?_⟩, ?_⟩
  · exact (F.walk X.A room.hd).frame _ _ _ F.at0 fun b hb u e => ext b u (foot b hb).1 e
  · intro B E' i y t mt _ _ _ _ _ _ _
    simp only [List.forIn_nil]
    exact wpAny_pure ⟨rfl, keeps_refl _⟩
  · intro B E' i y t mt hB dB uB hy _ ln lm lk
    have lt : i < xs.length := by
      rw [F.rel.length]
      exact (List.getElem?_eq_some_iff.mp hy).1
    have at_ := List.getElem?_eq_getElem lt
    obtain ⟨y', hy', ry⟩ := F.rel.get at_
    cases hy.symm.trans hy'
    refine wpAny_mono (hel _ B E' xs[i] y t mt I1.ok.mod ry (oks _ (List.getElem_mem lt)) hB dB uB rfl I1.ok.glob rfl (fun b u e => ?_) ln lm) (fun z t' r => ⟨⟨_, at_, r.1⟩, r.2⟩) fun _ _ e => e
    obtain ⟨nb, eb⟩ := based b u e
    have e3 := stays b u nb eb
    exact lk b (List.mem_range.mpr (Heap.lt_size e3)) (fun z => Nat.ne_of_lt (Heap.lt_size eb) (List.mem_singleton.mp z)) u (kept b u e3)
  · intro g h5 tk5 gen bare gt sz5 keep5 W5 start
    simp only [GxR.passing_true, List.length_range] at W5
    refine hQ xs H1 g _ hR ⟨_, _, _, _, _, W5.in4_1, start, fun j y t Qj Ej hy hj => ?_, fun z mv => ?_⟩
    · obtain ⟨i, hi, d, hd, rfl⟩ := hy
      obtain ⟨_, ei⟩ := List.getElem?_eq_some_iff.mp hi
      rw [List.getElem_range] at ei
      subst ei
      rw [trL_some hd] at hj
      exact wpAny_truthy_bool hj
    · have apart : ∀ b u, s1.heap.get? b = some u → b ∉ h3.objs.size :: [s1.heap.objs.size] := fun b u e hb => by
        have lb : (b : Nat) < s1.heap.objs.size := Heap.lt_size e
        simp only [List.mem_cons, List.not_mem_nil, or_false] at hb
        rcases hb with e' | e' <;> rw [e'] at lb
        · exact Nat.lt_irrefl _ (Nat.lt_trans lb room3)
        · exact Nat.lt_irrefl _ lb
      have fin := inv_tab (more := more) (h' := z.heap) (g' := z.gens) (d' := z.drawn) (t' := z.toks) I1 tP (fun b u nb e => mv.heap b u (apart b u e) (keep5 b u (stays b u nb e))) (mv.heap P _ (apart P _ gP) (keep5 P _ gP3)) (AllBare.movedS (I1.bare.push bare) mv)
      rw [sh_eta s1 z mv.os] at fin
      exact ⟨upd H1 P (.tbl (tab ++ more)), ⟨⟨tab ++ more, upd_same, tr3⟩, fun b hb => upd_ne hb⟩, fin⟩

/-- all(test for x in e), e a list or a tuple; behind it the def's table may have grown -/
def tAllD (K : PySem.W.Frag) (P : Addr) (ok : V → Prop) (pb : V → Bool) (te : TE) : TE := fun σ H Q => te σ H fun v H1 => ∃ (a : Addr) (xs : List V), v = .ref a ∧ SeqLT K H1 a xs ∧ (∀ v ∈ xs, ok v) ∧ TabG H1 P ∧ ∀ H2, Tabbed P H1 H2 → Q (.bl (xs.all pb)) H2
theorem pe_allD {c P : Addr} {elt iter : Expr} {x : Str} {px p pos gpos : Pos} {scope : Scope} {ok : V → Prop} {pb : V → Bool} {te : TE} {k : Nat}
    (hr : Room k X.A) (hg : Gl X "all") (hm : X.mg "all" = none) (hb : bootBuiltins "all" = some (.builtin "all")) (TB : GxR.TabB X.base X.mg c P) (hcode : X.env.code = .ref c) (S : GenS X.env scope x) (hi : PE X iter te) (hel : EltD X scope x elt ok pb)
    (hs : ∀ v, genFold iter X.env v = pure v)
    (he : starEach [.GeneratorExp elt [⟨.Name x px, iter, [], 0⟩] scope gpos] X.env = (false, eval (.GeneratorExp elt [⟨.Name x px, iter, [], 0⟩] scope gpos) X.env) :: starEach [] X.env := by rfl) :
    PE X (.Call (.Name "all" p) [.GeneratorExp elt [⟨.Name x px, iter, [], 0⟩] scope gpos] [] pos) (tAllD X.K P ok pb te) := by
  refine ⟨fun pins s σ H Q I h => ?_⟩
  refine wpAny_Call_Name_kw (ld_blt I hg hm hb ?_)
  refine PyProof.Rows.callWith_builtin1 ?_ he (by rfl)
  rw [he]
  show wpAny _ _ (spliced ((false, eval (.GeneratorExp elt [⟨.Name x px, iter, [], 0⟩] scope gpos) X.env) :: backTo pos (starEach [] X.env))) _ _ s
  refine Calls.spliced_cons (gen_seq (R := fun xs H1 => ∀ H2, Tabbed P H1 H2 → Q (.bl (xs.all pb)) H2) hr TB hcode S hi hel hs I h fun xs H1 g s5 hR hG => ?_)
  obtain ⟨fp, wr, G, F, St, W, hst, htr, hI⟩ := hG
  refine Calls.spliced_nil ?_
  refine call_all_walkS (W.self 0 _ _ _ hst ⟨g, fp, wr, G, _, F, St, _, rfl, W, hst, htr, fun s' hmv => ?_⟩)
  obtain ⟨H2, hT, J⟩ := hI s' hmv
  refine ⟨.bl _, H2, J, rfl, ?_⟩
  rw [all_trL pb xs]
  exact hR H2 hT
end
end Lb

set_option Elab.async false
set_option linter.all false
set_option maxRecDepth 100000
set_option maxHeartbeats 2000000
namespace Lb
open PySem PySem.Spec PyProof.Rows L2

section
variable {X : Cx}

/-! repr of data, where no repr is under way -/
def rReprD (K : PySem.W.Frag) (n : Nat) : List V → Hp → VK → Prop := fun xs H Q => ∃ (a : Addr) (d : PyData), xs = [.ref a] ∧ Dp K H (.ref a) d ∧ d.showable = true ∧ d.hasDict = false ∧ d.depth ≤ n ∧ d.shown.length ≤ sizeLine ∧ Q (.str d.shown) H
theorem cr_reprD {n : Nat} (hg : X.A.guards = some []) (hu : X.A.units + (n + 1) < cLine) : CallR X (.builtin "repr") (rReprD X.K n) := by
  intro pins s σ H xs us Q I r h
  obtain ⟨a, d, rfl, dp, hs, hd, hn, hz, q⟩ := h
  rw [Vals.ref1 r]
  obtain ⟨as, rd⟩ := Dp.reads I d (.ref a) (.ref a) dp rfl
  refine repr_of_reads' rd hs (fun e => ?_) hg (by omega) (fun _ _ e => e) (fun h' u tk hk => ?_) hz
  · rw [hd] at e
    cases e
  · exact ⟨.str d.shown, H, I.kept hk, ⟨u, rfl⟩, q⟩

/-! sorted of ints in a list or a tuple -/
theorem collect_tup {P : Program} {w : World} {A : Around} {E : Value → Shared → Prop} {s : Shared} {t : Addr} {vs : List Value} {Q : List Value → Shared → Prop} (ht : s.heap.IsTuple t vs.toArray) (hz : vs.length ≤ sizeLine)
    (h : Q vs { s with heap := (s.heap.push (seqObj "list" #[] 0)).update s.heap.objs.size (Obj.mapSeq (· ++ vs.toArray)) }) :
    wpAny (model P w) A (collect (.ref t)) Q E s := by
  obtain ⟨o, ho, hc, n, hd⟩ := id ht
  have hnew : (s.heap.push (seqObj "list" #[] 0)).get? s.heap.objs.size = some (seqObj "list" #[] 0) := Heap.get?_push_size _ rfl
  have hold : (s.heap.push (seqObj "list" #[] 0)).get? t = some o := Heap.get?_push_of_some _ ho
  unfold collect
  refine wpAny_bind (wpAny_runValue (codeAny_builtin entry_proto_collect' ?_))
  refine wpAny_bind (m := newList []) (wpAny_newList (wpAny_pure ⟨Code.quiet_builtin _ (by decide +kernel), codeAny_builtin entry_list_iadd' ?_⟩))
  show wpAny _ _ (Builtin.List.listExtendWith (.ref s.heap.objs.size) (.ref t) (.ref s.heap.objs.size)) _ _ ⟨s.heap.push (seqObj "list" #[] 0), _, _, _, _⟩
  unfold Builtin.List.listExtendWith
  refine wpAny_bind (wpAny_typeOf (T := "tuple") ⟨o, hold, hc⟩ ?_)
  have e2 : (Value.type "tuple" == Value.type "tuple") = true := rfl
  rw [if_pos (by rw [e2, Bool.or_true])]
  refine wpAny_bind (listItems_at hold hd (wpAny_bind (listItems_at (xs := #[]) (n := 0) hnew rfl ?_)))
  rw [if_neg (by simp)]
  refine wpAny_bind (listUpdate_at (xs := #[]) (n := 0) hnew rfl (wpAny_pure ?_) (Nat.zero_le _) (by show (#[] ++ vs.toArray).size ≤ sizeLine + 1; simp only [Array.size_append, List.size_toArray, List.length_nil]; omega))
  refine wpAny_bind (m := load s.heap.objs.size) (wpAny_load (get?_update_seq hnew _) ?_)
  have e3 : ((#[] : Array Value) ++ vs.toArray).toList = vs := by simp
  show wpAny _ _ (pure ((#[] : Array Value) ++ vs.toArray).toList) Q E _
  rw [e3]
  exact wpAny_pure h

theorem sorted_tupI {P : Program} {w : World} {A : Around} {E : Value → Shared → Prop} {s : Shared} {t : Addr} {vs : List Value} {ns : List Int} {Q : Value → Shared → Prop} (ht : s.heap.IsTuple t vs.toArray) (hI : IntsAre vs ns) (h64 : vs.length < 64)
    (h : ∀ (out : Array Value) (ns' : List Int), IntsAre out.toList ns' → ns'.Perm ns → ns'.Pairwise (· ≤ ·) → Q (.ref (s.heap.objs.size + 1)) { s with heap := sortedAll s.heap vs out }) :
    wpAny (model P w) A (call (.builtin "sorted") [.ref t]) Q E s := by
  refine Calls.call_function_entry kind_sorted plain_sorted entry_sorted (args_sorted1 _) ?_
  unfold Builtin.«sorted»
  refine wpAny_bind (m := checkCount "sorted" 1 1 _) (wpAny_pure (wpAny_bind (collect_tup ht (small64 h64) (wpAny_bind (wpAny_newList ?_)))))
  have z1 : ((s.heap.push (seqObj "list" #[] 0)).update s.heap.objs.size (Obj.mapSeq (· ++ vs.toArray))).objs.size = s.heap.objs.size + 1 := by rw [Heap.size_update, size_push']
  have z2 : (((s.heap.push (seqObj "list" #[] 0)).update s.heap.objs.size (Obj.mapSeq (· ++ vs.toArray))).push (seqObj "list" vs.toArray 0)).get? (s.heap.objs.size + 1) = some (seqObj "list" vs.toArray 0) := by
    rw [← z1]
    exact Heap.get?_push_size _ rfl
  show wpAny _ _ _ _ _ ⟨((s.heap.push (seqObj "list" #[] 0)).update s.heap.objs.size (Obj.mapSeq (· ++ vs.toArray))).push (seqObj "list" vs.toArray 0), _, _, _, _⟩
  rw [z1]
  exact wpAny_bind (wpAny_holding (wpAny_call_entry slot_list_sort ⟨_, z2, rfl⟩ entry_list_sort (list_sort_tree z2 hI h64 fun out ns' a1 a2 a3 => ⟨_, rfl, wpAny_pure ⟨_, rfl, h out ns' a1 a2 a3⟩⟩) (args_list_sort _)))

def rSortLT (K : PySem.W.Frag) : List V → Hp → VK → Prop := fun vs H Q => ∃ (a : Addr) (ns : List Int), vs = [V.ref a] ∧ SeqLT K H a (ns.map V.int) ∧ ns.length < 64 ∧
  ∀ (ns' : List Int) (p : Addr), ns'.Perm ns → ns'.Pairwise (· ≤ ·) → H p = none → Q (.ref p) (upd H p (.lst (ns'.map V.int)))
theorem cr_sortLT : CallR X (.builtin "sorted") (rSortLT X.K) := by
  intro pins s σ H vs us Q I r h
  obtain ⟨a, ns, rfl, hs, h64, q⟩ := h
  rcases hs with hs | hs
  · exact cr_sorted pins s σ H _ us Q I r ⟨a, ns, rfl, hs, h64, q⟩
  · obtain ⟨its, rv, pl, _⟩ := I.tuple hs
    rw [Vals.ref1 r]
    have hi := rv.ints
    refine sorted_tupI (show s.heap.IsTuple a its.toArray from pl) hi (by rw [hi.length]; exact h64) fun out ns' h1 h2 h3 => ?_
    obtain ⟨ep, he⟩ := sortedAll_at s.heap its out
    have hl : (ns'.map V.int).length ≤ sizeLine := by
      rw [List.length_map, h2.length_eq]
      exact small64 h64
    exact ⟨.ref _, upd H (s.heap.objs.size + 1) (.lst (ns'.map V.int)), I.laid (t' := s.toks) (fun _ _ => sortedAll_old) (Nat.le_succ _) ⟨hl, out.toList, ep, vals_of_ints h1, he⟩, rfl, q ns' _ h2 h3 (I.hok.fresh (Nat.le_succ _))⟩

/-- an order as a value: a list (false), or a tuple (true) that is known to have no dict of its own -/
def OrdK : Bool → Hp → Addr → List V → Prop
  | false, H, a, xs => H a = some (.lst xs)
  | true, H, a, xs => ∃ o : Obj, o.dict = none ∧ H a = some (.frz o (.tup xs))
theorem OrdK.lt {K : PySem.W.Frag} {b : Bool} {H : Hp} {a : Addr} {xs : List V} (h : OrdK b H a xs) : SeqLT K H a xs := by
  cases b with
  | false => exact .inl (.inl (.inl h))
  | true =>
    obtain ⟨o, _, h⟩ := h
    exact .inr (.inl (.inr ⟨o, h⟩))
theorem OrdK.sqT {K : PySem.W.Frag} {H : Hp} {a : Addr} {xs : List V} (h : OrdK true H a xs) : SqT K H a xs := by
  obtain ⟨o, _, h⟩ := h
  exact .inl (.inr ⟨o, h⟩)
theorem OrdK.sqL {K : PySem.W.Frag} {H : Hp} {a : Addr} {xs : List V} (h : OrdK false H a xs) : SqL K H a xs := .inl (.inl h)

/-! seq.index(k), seq a list or a tuple of ints that has k -/
theorem idx_run {pins : List (Addr × Obj)} {s : Shared} {σ : L2.St} {H : Hp} {a : Addr} {us : List Value} {ns : List Int} {k : Int} {Q : VK} (I : L2.Inv X pins σ H s) (ru : Vals [V.int k] us) (hk : k ∈ ns) (q : Q (.int ((ns.idxOf k : Nat) : Int)) H) :
    (SqL X.K H a (ns.map V.int) → wpAny (model X.prog X.w) X.A (call (.builtin "list.index") (.ref a :: us)) (EP X pins σ Q) X.xe s) ∧
    (SqT X.K H a (ns.map V.int) → wpAny (model X.prog X.w) X.A (call (.builtin "tuple.index") (.ref a :: us)) (EP X pins σ Q) X.xe s) := by
  obtain ⟨u, rfl, t, rfl⟩ := vals1 ru
  refine ⟨fun hl => ?_, fun ht => ?_⟩
  · obtain ⟨its, rv, pl, hz⟩ := I.list hl
    rw [List.length_map] at hz
    exact PySem.SeqAt.list_index_ints pl.isList rv.ints hz hk ⟨.int _, H, I.tok _, ⟨_, rfl⟩, q⟩
  · obtain ⟨its, rv, pl, hz⟩ := I.tuple ht
    exact PySem.SeqAt.tuple_index_ints (show s.heap.IsTuple a its.toArray from pl) rv.ints hk ⟨.int _, H, I.tok _, ⟨_, rfl⟩, q⟩
def tIdx (to : TE) (ta : TA) : TE := fun σ H Q => to σ H fun x H1 => ∃ (b : Bool) (a : Addr) (ns : List Int), x = .ref a ∧ OrdK b H1 a (ns.map V.int) ∧ ta σ H1 fun vs H2 => ∃ k : Int, vs = [.int k] ∧ OrdK b H2 a (ns.map V.int) ∧ k ∈ ns ∧ Q (.int ((ns.idxOf k : Nat) : Int)) H2
theorem pe_idx {o e : Expr} {to : TE} {ta : TA} {apos cpos : Pos} (ho : PE X o to) (ha : PA X [e] ta)
    (hbase : attributeBase o "index" X.env (eval o X.env) = eval o X.env := by rfl)
    (hfew : ((backTo cpos (starEach [e] X.env)).all (fun x => !x.1) && (backToKw cpos (keywordEach [] X.env)).all (fun x => x.1.isSome) && decide ([e].length + ([] : List Keyword).length + (if ([] : List Keyword).isEmpty then 0 else 1) < 30)) = true := by rfl)
    (hline : (apos.endLine == cpos.line) = true := by rfl) (hs : starEach [e] X.env = (false, eval e X.env) :: starEach [] X.env := by rfl) :
    PE X (.Call (.Attribute o "index" apos) [e] [] cpos) (tIdx to ta) := by
  refine ⟨fun pins s σ H Q I h => ?_⟩
  refine wpAny_Call_method_late hbase hfew hline rfl (thn (ho.run pins s σ H _ I h) fun v s1 ⟨x, H1, I1, r1, q0⟩ => ?_)
  obtain ⟨b, a, ns, ex, oa, q1⟩ := q0
  subst ex
  cases r1
  have arg := ha.run cpos pins s1 σ H1 _ I1 q1
  rw [hs] at arg ⊢
  cases b with
  | false =>
    obtain ⟨hz, its, n, rv, hob⟩ := I1.hok a _ oa
    refine ⟨"list", "list.index", PySem.F.plainAttrs_list, PySem.F.slot_list_index, PySem.F.type_list_index, ⟨_, hob, rfl⟩, fun b eb => ?_, ?_⟩
    · cases eb
      exact ⟨_, hob, rfl⟩
    · refine Calls.callWith_builtin (by rfl) (Calls.evalArgs_plain (thn arg fun us s2 ⟨vs, H2, I2, r2, k, ev, oa2, hk, q2⟩ => ?_))
      subst ev
      exact (idx_run I2 r2 hk q2).1 oa2.sqL
  | true =>
    obtain ⟨ob, hd, oa⟩ := oa
    obtain ⟨hob, _⟩ := I1.hok a _ oa
    obtain ⟨_, its, _, o3, e3, c3, _⟩ := (show ObjOk X.prog X.w H1 s1.heap a (.frz ob (.tup (ns.map V.int))) from I1.hok a _ oa).2
    rw [hob] at e3
    cases e3
    refine ⟨"tuple", "tuple.index", PySem.F.plainAttrs_tuple, PySem.F.slot_tuple_index, PySem.F.type_tuple_index, ⟨_, hob, c3⟩, fun b eb => ?_, ?_⟩
    · cases eb
      exact ⟨_, hob, hd⟩
    · refine Calls.callWith_builtin (by rfl) (Calls.evalArgs_plain (thn arg fun us s2 ⟨vs, H2, I2, r2, k, ev, oa2, hk, q2⟩ => ?_))
      subst ev
      exact (idx_run I2 r2 hk q2).2 oa2.sqT

/-! seq[::-1], seq a list or a tuple: a new one of the same kind -/
theorem applied_back {P : Program} {w : World} {A : Around} {E : Value → Shared → Prop} {s : Shared} {sl : Addr} {u : Tok} {n : Nat} {Q : Int × Int × Nat → Shared → Prop} (hs : s.heap.IsSliceOf sl .none .none (.int (-1) u)) (h : Q ((n : Int) - 1, -1, n) s) :
    wpAny (model P w) A (Builtin.Slice.sliceApplied (.ref sl) (pure (n : Int))) Q E s := by
  obtain ⟨os, hos, _, hds⟩ := id hs
  unfold Builtin.Slice.sliceApplied Builtin.Slice.sliceFields
  refine wpAny_bind (wpAny_bind (wpAny_field hos hds (x := .none) rfl (wpAny_bind (wpAny_field hos hds (x := .none) rfl (wpAny_bind (wpAny_field hos hds (x := .int (-1) u) rfl (wpAny_pure ?_)))))))
  refine wpAny_bind (slicePart_int ?_)
  show wpAny _ _ (if ((-1 : Int) == 0) = true then _ else _) _ _ s
  rw [if_neg (by decide)]
  refine wpAny_bind (slicePart_none (wpAny_bind (slicePart_none (wpAny_bind (wpAny_pure (wpAny_pure ?_))))))
  have e : Builtin.Slice.slicePlaces ((n : Int) - 1) (-1) (-1) = n := by
    unfold Builtin.Slice.slicePlaces
    rw [if_neg (by decide)]
    by_cases hn : (n : Int) - 1 > -1
    · rw [if_pos hn, show (- -1 : Int) = 1 by decide, Int.ediv_one]
      omega
    · rw [if_neg hn]
      omega
  show Q ((n : Int) - 1, -1, Builtin.Slice.slicePlaces ((n : Int) - 1) (-1) (-1)) s
  rw [e]
  exact h
theorem fm_congr {α β : Type} {f g : α → Option β} : ∀ l : List α, (∀ x ∈ l, f x = g x) → l.filterMap f = l.filterMap g
  | [], _ => rfl
  | x :: r, h => by
    rw [List.filterMap_cons, List.filterMap_cons, h x (.head _), fm_congr r fun y hy => h y (.tail _ hy)]
theorem pick_back (xs : Array Value) : ((List.range xs.size).filterMap fun (k : Nat) => xs[((xs.size : Int) - 1 + (k : Int) * (-1)).toNat]?).toArray = xs.toList.reverse.toArray := by
  have e : ((List.range xs.size).filterMap fun (k : Nat) => xs[((xs.size : Int) - 1 + (k : Int) * (-1)).toNat]?) = ((List.range xs.size).map fun k => xs.size - 1 - k).filterMap (xs[·]?) := by
    rw [List.filterMap_map]
    refine fm_congr _ fun k hk => ?_
    have hk2 := List.mem_range.mp hk
    have e1 : ((xs.size : Int) - 1 + (k : Int) * (-1)).toNat = xs.size - 1 - k := by omega
    rw [e1]
    rfl
  rw [e, PySem.W.krv_range, List.filterMap_reverse, PySem.W.krv_all]
theorem getItem_tuple_back {P : Program} {w : World} {A : Around} {E : Value → Shared → Prop} {s : Shared} {t sl : Addr} {xs : List Value} {u : Tok} {Q : Value → Shared → Prop} (ht : IsTup s.heap t xs.toArray) (hs : s.heap.IsSliceOf sl .none .none (.int (-1) u)) (hz : xs.length ≤ sizeLine)
    (h : Q (.ref s.heap.objs.size) { s with heap := s.heap.push { cls := .type "tuple", data := .seq xs.reverse.toArray } }) : wpAny (model P w) A (getItem (.ref t) (.ref sl)) Q E s := by
  have zOk : sizeOk (.seq xs.reverse.toArray) := by
    show xs.reverse.toArray.size ≤ sizeLine
    rw [List.size_toArray, List.length_reverse]
    exact hz
  obtain ⟨os, hos, hcs, _⟩ := id hs
  unfold getItem
  try with_reducible refine wpAny_holding ?_
  first | refine wpAny_bind (wpAny_pure ?_) | skip
  refine wpAny_bind (wpAny_sequenceKey ht.typeIs (by decide) ?_)
  refine wpAny_bind (wpAny_callSpecial?_slot (name := Str.ofString "__getitem__") ht.typeIs slot_tuple_getitem (wpAny_call_entry slot_tuple_getitem ht.typeIs entry_tuple_getitem ?_ (args_tuple_getitem _ _)))
  refine wpAny_bind (m := Builtin.Tuple.tupleItemsOf (.ref t)) (tupleItemsOf_ ht (wpAny_bind (wpAny_typeOf (show s.TypeIs (.ref sl) "slice" from ⟨os, hos, hcs⟩) ?_)))
  rw [if_pos (by decide)]
  refine wpAny_bind (applied_back hs ?_)
  have off : ¬ ((((xs.toArray.size : Int) - 1) == 0 && (-1 : Int) == 1 && xs.toArray.size == xs.toArray.size) = true) := by
    rw [show ((-1 : Int) == 1) = false by decide, Bool.and_false, Bool.false_and]
    exact Bool.false_ne_true
  show wpAny _ _ (if (((xs.toArray.size : Int) - 1) == 0 && (-1 : Int) == 1 && xs.toArray.size == xs.toArray.size) = true then _ else _) _ _ s
  rw [if_neg off, pick_back]
  exact wpAny_bind (m := Builtin.Tuple.tupleExact _) (wpAny_newObj_type (wpAny_pure ⟨_, rfl, wpAny_pure h⟩) zOk)
def tRev (te : TE) : TE := fun σ H Q => te σ H fun x H1 => ∃ (b : Bool) (a : Addr) (xs : List V), x = .ref a ∧ OrdK b H1 a xs ∧ ∀ p, H1 p = none → Q (.ref p) (upd H1 p (if b = true then .tup xs.reverse else .lst xs.reverse))
theorem pe_rev {e : Expr} {te : TE} {k : Nat} {p1 p2 p3 pos : Pos} (he : PE X e te) : PE X (.Subscript e (.Slice none none (some (.UnaryOp .USub (.Constant (.int 1) k p1) p2)) p3) pos) (tRev te) := by
  refine ⟨fun pins s σ H Q I h => ?_⟩
  refine Subscript_ (thn (he.run pins s σ H _ I h) fun v s1 ⟨x, H1, I1, r1, q0⟩ => ?_)
  obtain ⟨b, a, xs, ex, oa, q⟩ := q0
  subst ex
  cases r1
  have step : PO X (some (.UnaryOp .USub (.Constant (.int 1) k p1) p2)) (tPart (tUn (rU fun i => .int (-i)) (tC (.int 1)))) := po_some (pe_un un_neg pe_int)
  refine wpAny_Slice (thn (po_none.run pins s1 σ H1 (fun o H2 => o = none ∧ H2 = H1) I1 ⟨rfl, rfl⟩) fun vl s2 ⟨l, H2, I2, pl, el, e2⟩ => ?_)
  subst el e2
  refine thn (po_none.run pins s2 σ H2 (fun o H3 => o = none ∧ H3 = H2) I2 ⟨rfl, rfl⟩) fun vu s3 ⟨u, H3, I3, pu, eu, e3⟩ => ?_
  subst eu e3
  refine thn (step.run pins s3 σ H3 (fun o H4 => o = some (-1) ∧ H4 = H3) I3 ⟨1, rfl, -1, rfl, rfl, rfl⟩) fun vs s4 ⟨o, H4, I4, ps, eo, e4⟩ => ?_
  subst eo e4
  cases pl
  cases pu
  cases ps with
  | int _ tk =>
    have I5 : L2.Inv X pins σ H4 { s4 with heap := s4.heap.push { cls := .type "slice", data := .fields #[.none, .none, .int (-1) tk] } } := I4.kept (t' := s4.toks) fun b ob q => Heap.get?_push_of_some _ q
    cases b with
    | false =>
      obtain ⟨its, r, ht, hz⟩ := I5.list oa.sqL
      refine tail_any (ops := [.ref a, .ref s4.heap.objs.size]) ht.isList.typeIs (PySem.slot_list_getitem.lookup) ?_ (by with_unfolding_all rfl)
      refine wpAny_getItem_list_slice ht.isList (Heap.IsSliceOf.new _ _ _ _) .none .none (.int _ _) (by decide) ?_ (by rw [List.size_toArray, ← r.length]; exact hz)
      rw [PySem.W.krv_pick]
      refine ⟨.ref _, _, I5.laid (t' := s4.toks) (o := .lst xs.reverse) (fun b ob q => Heap.get?_push_of_some _ q) (Nat.le_refl _) ?_, rfl, q _ (I5.hok.fresh (Nat.le_refl _))⟩
      exact ⟨by rw [List.length_reverse]; exact hz, _, 0, r.reverse, Heap.get?_push_size _ rfl⟩
    | true =>
      obtain ⟨its, r, ht, hz⟩ := I5.tuple oa.sqT
      refine tail_any (ops := [.ref a, .ref s4.heap.objs.size]) (show IsTup _ a its.toArray from ht).typeIs (slot_tuple_getitem.lookup) ?_ (by with_unfolding_all rfl)
      refine getItem_tuple_back ht (Heap.IsSliceOf.new _ _ _ _) (by rw [← r.length]; exact hz) ?_
      refine ⟨.ref _, _, I5.laid (t' := s4.toks) (o := .tup xs.reverse) (fun b ob q => Heap.get?_push_of_some _ q) (Nat.le_refl _) ?_, rfl, q _ (I5.hok.fresh (Nat.le_refl _))⟩
      exact ⟨by rw [List.length_reverse]; exact hz, _, r.reverse, IsTup.new _ _⟩

/-! tuple(list), tuple(range): new tuples of which the object is told -/
/-- the object is known and has no dict of its own -/
theorem inv_frz {pins : List (Addr × Obj)} {σ : L2.St} {H : Hp} {s : Shared} {h' : Heap} {xs : List V} {its : List Value} (I : L2.Inv X pins σ H s) (hk : ∀ b o, s.heap.get? b = some o → h'.get? b = some o) (hz : xs.length ≤ sizeLine) (rv : Vals xs its) (tk : Nat) :
    L2.Inv X pins σ (upd H h'.objs.size (.frz { cls := .type "tuple", data := .seq its.toArray } (.tup xs))) { s with heap := h'.push { cls := .type "tuple", data := .seq its.toArray }, toks := tk } := by
  have I1 : L2.Inv X pins σ H { s with heap := h', toks := tk } := I.kept hk
  refine I1.laid (t' := tk) (fun b o e => Heap.get?_push_of_some _ e) (Nat.le_refl _) ?_
  exact ⟨Heap.get?_push_size _ rfl, hz, its, rv, IsTup.new _ _⟩
def kTupF (x : V) (H : Hp) (Q : VK) : Prop := ∃ (b : Bool) (p : Addr) (xs : List V), x = .ref p ∧ OrdK b H p xs ∧ (b = true → Q (.ref p) H) ∧ (b = false → ∀ (q : Addr) (o : Obj), o.dict = none → H q = none → Q (.ref q) (upd H q (.frz o (.tup xs))))
theorem pe_tupF {a : Expr} {ta : TE} {p pos : Pos} (hg : Gl X "tuple") (hm : X.mg "tuple" = none) (ha : PE X a ta) (na : starEach [a] X.env = (false, eval a X.env) :: starEach [] X.env := by rfl) :
    PE X (.Call (.Name "tuple" p) [a] [] pos) (tThen ta kTupF) := by
  refine ⟨fun pins s σ H Q I h => ?_⟩
  refine Call_ (ld_blt I hg hm boot_tuple (PyProof.Rows.callWith_type1 (one_arg ha I h (fun v s2 x H2 I2 r q => ?_) na) na))
  obtain ⟨b, t, xs, rfl, oa, q1, q2⟩ := q
  obtain rfl : v = .ref t := r
  cases b with
  | true =>
    obtain ⟨its, rv, pl, hz⟩ := I2.tuple oa.sqT
    exact call_tuple_tup pl ⟨.ref t, H2, I2, rfl, q1 rfl⟩
  | false =>
    obtain ⟨its, rv, pl, hz⟩ := I2.list oa.sqL
    refine call_tuple_list pl.isList (fun h' hk => ?_) (by rw [List.size_toArray, ← rv.length]; exact hz)
    have I1 : L2.Inv X pins σ H2 { s2 with heap := h' } := I2.kept (t' := s2.toks) hk
    exact ⟨.ref h'.objs.size, _, inv_frz I2 hk hz rv s2.toks, rfl, q2 rfl _ _ rfl (I1.hok.fresh (Nat.le_refl _))⟩
def tTupRF (te : L2.St → Hp → (Int → Int → Hp → Prop) → Prop) : TE := fun σ H Q => te σ H fun a b H1 => RgOk a b ∧ ∀ (q : Addr) (o : Obj), o.dict = none → H1 q = none → Q (.ref q) (upd H1 q (.frz o (.tup (rgV a b))))
theorem pe_tupRF {e : Expr} {te : L2.St → Hp → (Int → Int → Hp → Prop) → Prop} {p pos : Pos} (hc : X.calm = true) (hg : Gl X "tuple") (hm : X.mg "tuple" = none) (he : PRg X e te) (na : starEach [e] X.env = (false, eval e X.env) :: starEach [] X.env := by rfl) : PE X (.Call (.Name "tuple" p) [e] [] pos) (tTupRF te) := by
  refine ⟨fun pins s σ H Q I h => ?_⟩
  refine Call_ (ld_blt I hg hm boot_tuple (PyProof.Rows.callWith_type1 (args_cons (thn (he pins s σ H _ I h) fun x s1 ⟨r, a, b, t, u, v, H1, ex, hr, I1, ok, q⟩ => args_nil ?_) na) na))
  subst ex
  obtain ⟨b1, b2, b3, b4, b5⟩ := ok
  refine call_tuple_range (n := (b - a).toNat) (I1.ok.hd hc) hr (small_one b1 b2 b3 b4) (rangeSize_nat a b) b5 fun h' tk acc hk hi => ?_
  have I2 : L2.Inv X pins σ H1 { s1 with heap := h', toks := tk } := I1.kept hk
  have z := inv_frz (xs := rgV a b) (its := acc.toList) I1 hk (by rw [rgV_length, sizeLine_eq]; omega) (vals_rg hi) tk
  rw [Array.toArray_toList] at z
  exact ⟨.ref h'.objs.size, _, z, rfl, q _ _ rfl (I2.hok.fresh (Nat.le_refl _))⟩
end
end Lb

set_option Elab.async false
set_option linter.all false
set_option maxRecDepth 100000
set_option maxHeartbeats 2000000
namespace Lb
open PySem PySem.Spec PyProof.Rows L2

/-! ### promises that are kept where no repr is under way -/
structure FnG (P : Program) (w : World) (K : PySem.W.Frag) (mg : Str → Option Value) (base : Heap) (k : Nat) (f : Addr) (fd : FuncData) (ps : List Str) (sp : Sp) : Prop where
  len : ∀ vs H Q E, sp vs H Q E → vs.length = ps.length
  run : ∀ (A : Around) (outer : List Env) (s : Shared) (H : Hp) (args : Args) (us : List Value) (vs : List V) (Q : VK) (E : XK), A.guards = some [] → Room k A → Env0 P w K mg base A outer s H → BindsTo s fd args (ps.zip us) → Vals vs us → sp vs H Q E →
    codeAny (model P w) A (.call (.ref f) args) (CR CX0 outer P w H s Q E) s

section
variable {P : Program} {w : World} {K : PySem.W.Frag} {mg : Str → Option Value} {base : Heap}
theorem okG {x qual : Str} {st : Stmt} {f : Addr} {fd : FuncData} {N ps : List Str} {k : Nat} {sp : Sp} (F : Fun K x qual st f fd) (S : FnScope N ps (defScope st)) (len : ∀ vs H Q E, sp vs H Q E → vs.length = ps.length)
    (body : ∀ (cdv : Value) (A : Around) (outer : List Env) (s : Shared) (H : Hp) (vs : List V) (Q : VK) (E : XK), A.guards = some [] → Room k (A.deeper (envOfC qual (defScope st) s.heap.objs.size f cdv)) → sp vs H Q E →
      ∃ t, PSs (cxOf CX0 P w K mg base N qual (defScope st) f cdv A outer s H E).nox (defBody st) t ∧ t { nx := fun _ H' => Q .non H', rt := Q } (start N vs) H) : FnG P w K mg base (k + 1) f fd ps sp := by
  obtain ⟨oc, od, kV, doc, pm, an, cdv, ct, osl, rfl, lk, hcd⟩ := F.ex
  refine ⟨len, fun A outer s H args us vs Q E hg hr e0 hb r hsp => ?_⟩
  have lenV := len _ _ _ _ hsp
  have old : ∀ b o, base.get? b = some o → s.heap.get? b = some o := fun b o e => (e0.bs b o e).1
  have kIn := e0.mod.kin.keeps old
  have params : ∀ y ∈ ps.zip us, (defScope st).names.lookup y.1 = some .local ∨ ((defScope st).names.lookup y.1 = some .cell ∧ ((cellsFrom (s.heap.objs.size + 1) (defScope st).names []).lookup y.1).isSome = true) := by
    rintro ⟨n, v⟩ hy
    rcases S.par n (List.of_mem_zip hy).1 with z | z
    · exact .inl z
    · exact .inr ⟨z, PySem.W.cellsFrom_some _ _ _ (.inl z)⟩
  refine codeAny_call_function hr.depth (kIn _ _ lk) rfl S.co S.gen rfl (PySem.W.codeRec_of kIn hcd) (hb _ _ _ _ (wpAny_newFunctionEnv_cells S.kind params fun env he s1 x => ?_))
  subst he
  obtain ⟨t, ht, hq⟩ := body cdv A outer s H vs Q E hg (hr.deeper _) hsp
  refine ⟨(e0.mod.nolimit.keeps old).keeps x.toInCall.keep, codeAny_func (wpAny_mono (ht.nox.run [] s1 (start N vs) H _ (inv_start S hr.hd e0 lenV r x) hq) (fun fl s' hs => ?_) fun _ _ z => z)⟩
  have done : ∀ {σ' : L2.St} {H' : Hp} {v : V} {u : Value}, L2.Inv (cxOf CX0 P w K mg base N qual (defScope st) f cdv A outer s H E) [] σ' H' s' → RelV v u → Q v H' → CE outer P w H s Q u s' := fun J rv q => ⟨_, _, J.os, J.bare, J.base, J.hok, rv, q⟩
  match fl, hs with
  | .ret u, ⟨v, σ', H', J, rv, q⟩ => exact done J rv q
  | .next, ⟨σ', H', J, q⟩ => exact done (v := .non) (u := .none) J rfl q
  | .brk, ⟨_, _, _, q⟩ => exact q.elim
  | .cont, ⟨_, _, _, q⟩ => exact q.elim
end

section
variable {X : Cx} {k : Nat} {f : Addr} {fd : FuncData} {ps ks : List Str} {sp : Sp} {x : Str} {p pos : Pos} {e : Expr} {es : List Expr} {t : TA}
/-- g(e, ..) of such a def -/
theorem pe_callG (F : FnG X.prog X.w X.K X.mg X.base k f fd ps sp) (hu : X.A.guards = some []) (hr : Room k X.A) (hg : Gl X x) (hm : X.mg x = some (.ref f)) (hk : PySem.W.keepIn X.K (.ref f) = true) (hb : Binds X.K fd ps [])
    (ha : PA X (e :: es) t) (hdb : (x == ("__debug__" : Str)) = false := by decide) (he : starEach (e :: es) X.env = (false, eval e X.env) :: starEach es X.env := by rfl) (hpl : (backTo pos (starEach es X.env)).any (·.1) = false := by rfl) :
    PE X (.Call (.Name x p) (e :: es) [] pos) (tCall sp [] E0 t) := by
  refine ⟨fun pins s σ H Q I h => wpAny_Call_Name_kw (ld_glob I hg hm ?_ hdb)⟩
  refine PySem.W.callWith_K (h₀ := X.base) I.ok.mod.kin hk (thn (ha.run pos pins s σ H _ I h) fun us s1 ⟨vs, H1, I1, r, q⟩ => ⟨I1.kIn, ?_⟩) he hpl
  have q' : sp vs H1 Q E0 := by
    have z : sp (vs ++ []) H1 Q E0 := q
    rw [List.append_nil] at z
    exact z
  have hl : (us ++ []).length = ps.length := by
    rw [List.append_nil, ← r.length]
    exact F.len _ _ _ _ q'
  have bd := hb s1 us I1.kIn hl
  rw [List.append_nil] at bd
  refine wpAny_call (codeAny_mono (F.run X.A X.stack s1 H1 ⟨us, []⟩ us vs Q E0 hu hr I1.env0 bd r q') fun z s' hq => ?_)
  match z, hq with
  | .ok (.ret u), hq => exact I1.after hq
/-- g(k = e, ..), keywords alone -/
theorem pe_callKW {CX : CXT} {E : XK} {kws : List Keyword} {tk : TA} {g : List Value → List Value → List Value} {gV : List V → List V → List V} (F : FnOk X.prog X.w X.K X.mg X.base CX k f fd ps sp) (hr : Room k X.A) (hg : Gl X x) (hm : X.mg x = some (.ref f)) (hk : PySem.W.keepIn X.K (.ref f) = true) (hb : KBinds X.K fd ps ks g gV) (hx : Passes CX X E)
    (hkw : PK X kws tk) (hall : (backToKw pos (keywordEach kws X.env)).all (·.1.isSome) = true := by rfl) (hks : (backToKw pos (keywordEach kws X.env)).filterMap (·.1) = ks := by rfl)
    (hdb : (x == ("__debug__" : Str)) = false := by decide) (hpl : ((backTo pos (starEach [] X.env)).any (·.1) || (backToKw pos (keywordEach kws X.env)).any (·.1.isNone)) = false := by rfl) :
    PE X (.Call (.Name x p) [] kws pos) (tCallK sp gV E tNil tk) := by
  refine ⟨fun pins s σ H Q I h => wpAny_Call_Name_kw (ld_glob I hg hm ?_ hdb)⟩
  refine PySem.W.callWith_KW0 (h₀ := X.base) I.ok.mod.kin hk hall (thn (hkw.run pos pins s σ H _ I h) fun ws s2 ⟨zs, H2, I2, rz, q2⟩ => ⟨I2.kIn, ?_⟩) hpl
  rw [hks]
  exact run_fnk F hr hb hx I2 .nil rz q2
end

/-! ### the end of a law that asks for reprs -/
/-- what is tracked at a law's entry: the tables of T, and (if t) the script at a, known as it is -/
def H0 (T : List Addr) (t : Bool) (a : Addr) (o : Obj) (xs : List V) : Hp := fun b => if b ∈ T then some (.tbl #[]) else if t = true ∧ b = a then some (.frz o (.lst xs)) else none
theorem H0_tab {T : List Addr} {t : Bool} {a : Addr} {o : Obj} {xs : List V} {b : Addr} (h : b ∈ T) : H0 T t a o xs b = some (.tbl #[]) := if_pos h
theorem H0_a {T : List Addr} {a : Addr} {o : Obj} {xs : List V} (h : a ∉ T) : H0 T true a o xs a = some (.frz o (.lst xs)) := (if_neg h).trans (if_pos ⟨rfl, rfl⟩)
theorem H0_some {T : List Addr} {t : Bool} {a : Addr} {o : Obj} {xs : List V} {b : Addr} {u : HO} (h : H0 T t a o xs b = some u) : (b ∈ T ∧ u = .tbl #[]) ∨ (t = true ∧ b = a ∧ u = .frz o (.lst xs)) := by
  unfold H0 at h
  by_cases h1 : b ∈ T
  · rw [if_pos h1] at h
    cases h
    exact .inl ⟨h1, rfl⟩
  · rw [if_neg h1] at h
    by_cases h2 : t = true ∧ b = a
    · rw [if_pos h2] at h
      cases h
      exact .inr ⟨h2.1, h2.2, rfl⟩
    · rw [if_neg h2] at h
      cases h

/-- the state at the entry of a law's call -/
structure Entry (P : Program) (w : World) (K : PySem.W.Frag) (mg mb : Str → Option Value) (cs : List (Addr × Addr)) (a : Addr) (vs : List Value) (ns : List Int) (s : Shared) : Prop where
  kin : K.In s.heap
  glob : s.heap.Ns mainGlobals mg
  blt : s.heap.Ns builtinsNs mb
  bltIs : ∀ x : Str, x ≠ "__name__" → mb x = bootBuiltins x
  lim : s.heap.NoLimit
  gens : s.gens = #[]
  tab : ∀ p ∈ cs, s.heap.get? p.2 = some { cls := .none, data := .fields #[] }
  tabK : ∀ p ∈ cs, K.lookup p.2 = none
  hd : ∀ p ∈ cs, PySem.W.CodeHd s.heap p.1 p.2
  bm : ∃ (bm : Addr) (ob : Obj), mg "__builtins__" = some (.ref bm) ∧ bm ≠ builtinsNs ∧ s.heap.get? bm = some ob ∧ ob.cls = .type "module" ∧ ob.dict = some builtinsNs ∧ ob.data = .plain
  scr : s.heap.get? a = some { cls := .type "list", data := .seq vs.toArray }
  isInt : IntsAre vs ns
  len : ns.length ≤ sizeLine

theorem law_callG {P : Program} {w : World} {K : PySem.W.Frag} {mg mb : Str → Option Value} {k : Nat} {fa a : Addr} {cs : List (Addr × Addr)} {fd : FuncData} {x : Str} {sp : Sp} {s₁ : Shared} {vs : List Value} {ns : List Int}
    (En : Entry P w K mg mb cs a vs ns s₁) (hr : Room k callerA)
    (F : ∀ base : Heap, K.In base → base.Ns mainGlobals mg → (∀ p ∈ cs, GxR.TabB base mg p.1 p.2) → FnG P w K mg base k fa fd [x] sp) (hb : ∀ (s : Shared) (u : Value), BindsTo s fd ⟨[u], []⟩ [(x, u)])
    (hsp : ∀ H : Hp, (∀ p ∈ cs, H p.2 = some (.tbl #[])) → SqL K H a (ns.map V.int) → sp [.ref a] H (fun v _ => v = .bl true) fun _ _ _ => False) :
    codeAny (model P w) callerA (.call (.ref fa) ⟨[.ref a], []⟩) (fun r s' => r = .ok (.ret (.bool true)) ∧ OldK s₁.heap s'.heap ∧ s'.os = s₁.os ∧ AllBare s'.gens) s₁ := by
  have rv := vals_ints En.isInt
  let T := cs.map (·.2)
  have tabT : ∀ b ∈ T, s₁.heap.get? b = some { cls := .none, data := .fields #[] } := fun b hbT => by
    obtain ⟨p, hp, e⟩ := List.mem_map.mp hbT
    rw [← e]
    exact En.tab p hp
  have tabN : ∀ b ∈ T, K.lookup b = none := fun b hbT => by
    obtain ⟨p, hp, e⟩ := List.mem_map.mp hbT
    rw [← e]
    exact En.tabK p hp
  have inT : ∀ p ∈ cs, p.2 ∈ T := fun p hp => List.mem_map.mpr ⟨p, hp, rfl⟩
  have aT : a ∉ T := fun z => by
    have q := tabT a z
    rw [En.scr] at q
    cases (congrArg Obj.data (Option.some.inj q) : Data.seq vs.toArray _ = Data.fields #[])
  have lenXs : (ns.map V.int).length ≤ sizeLine := by
    rw [List.length_map]
    exact En.len
  -- by whether the script is an object of the written part
  obtain ⟨t, ht, hS⟩ : ∃ t : Bool, (t = true → K.lookup a = none) ∧ SqL K (H0 T t a { cls := .type "list", data := .seq vs.toArray } (ns.map V.int)) a (ns.map V.int) := by
    cases hk : K.lookup a with
    | none => exact ⟨true, fun _ => rfl, .inl (.inr ⟨_, H0_a aT⟩)⟩
    | some o =>
      have e := En.kin a o hk
      rw [En.scr] at e
      cases e
      exact ⟨false, fun z => (nomatch z), .inr ⟨_, vs.toArray, _, hk, rfl, rfl, rfl, by rw [List.size_toArray, En.isInt.length]; exact En.len, by simpa using rv⟩⟩
  let H : Hp := H0 T t a { cls := .type "list", data := .seq vs.toArray } (ns.map V.int)
  have tabH : ∀ p ∈ cs, H p.2 = some (.tbl #[]) := fun p hp => H0_tab (inT p hp)
  have hok : HOk P w H s₁.heap := fun b u e => by
    rcases H0_some e with ⟨h1, rfl⟩ | ⟨_, rfl, rfl⟩
    · exact tabT b h1
    · exact ⟨En.scr, lenXs, vs, _, rv, En.scr⟩
  -- what is neither a table's nor the script's form is not tracked
  have free : ∀ {b : Addr} {o : Obj}, s₁.heap.get? b = some o → o.data ≠ .fields #[] → (∀ xs n, o.data ≠ .seq xs n) → H b = none := fun {b o} e h1 h2 => by
    cases q : H b with
    | none => rfl
    | some u =>
      rcases H0_some q with ⟨z, _⟩ | ⟨_, rfl, _⟩
      · rw [tabT b z] at e
        cases e
        exact absurd rfl h1
      · rw [En.scr] at e
        cases e
        exact absurd rfl (h2 _ _)
  have freeNs : ∀ {b : Addr} {m : Str → Option Value}, s₁.heap.Ns b m → (hidT s₁.heap H).Ns b m := fun {b m} ⟨o, es, ep, e, d, r⟩ => by
    refine ⟨o, es, ep, hidT_get e (free e (fun z => ?_) fun xs n z => ?_), d, r⟩ <;> (rw [d] at z; cases z)
  have kinB : K.In (hidT s₁.heap H) := fun b o e => hidT_get (En.kin b o e) (by
    cases q : H b with
    | none => rfl
    | some u =>
      rcases H0_some q with ⟨z, _⟩ | ⟨z, rfl, _⟩
      · rw [tabN b z] at e
        cases e
      · rw [ht z] at e
        cases e)
  have md : L2.Mod K mg (hidT s₁.heap H) := ⟨kinB, freeNs En.glob, ⟨mb, freeNs En.blt, En.bltIs⟩, let ⟨mc, h1, h2⟩ := En.lim; ⟨mc, freeNs h1, h2⟩⟩
  have notTab : ∀ {b p : Addr} {m : Str → Option Value}, p ∈ T → s₁.heap.Ns b m → b ≠ p := fun {b p m} hp ⟨o, es, ep, e, d, _⟩ z => by
    rw [z, tabT p hp] at e
    cases e
    cases d
  have tb : ∀ p ∈ cs, GxR.TabB (hidT s₁.heap H) mg p.1 p.2 := fun p hp => by
    obtain ⟨bm, ob, b1, b2, b3, b4, b5, b6⟩ := En.bm
    refine ⟨?_, ⟨bm, ob, b1, b2, fun q => ?_, fun q => ?_, hidT_get b3 (free b3 (fun z => ?_) fun xs n z => ?_), b4, b5, b6⟩, notTab (inT p hp) En.glob⟩
    · obtain ⟨o, us, file, tf, flags, tg, inF, text, tt, e1, r1, r2, r3, rest⟩ := En.hd p hp
      refine ⟨o, us, file, tf, flags, tg, inF, text, tt, hidT_get e1 (free e1 (fun z => ?_) fun xs n z => ?_), r1, r2, r3, rest⟩
      · rw [r2] at z
        cases z
        simp at r3
      · rw [r2] at z
        cases z
    · obtain ⟨o, es, ep, e, d, _⟩ := En.glob
      rw [q, e] at b3
      cases b3
      rw [d] at b6
      cases b6
    · rw [q, En.tab p hp] at b3
      cases b3
      cases b6
    · rw [b6] at z
      cases z
    · rw [b6] at z
      cases z
  have e0 : Env0 P w K mg (hidT s₁.heap H) callerA [] s₁ H := ⟨rfl, md, fun b o e => of_hidT e, Nat.le_of_eq (hidT_size _ _), trivial, fun b z => absurd (show b ∈ ([] : List Addr) from z) List.not_mem_nil, hok, .of_eq En.gens⟩
  refine codeAny_mono ((F _ kinB (freeNs En.glob) tb).run callerA [] s₁ H ⟨[.ref a], []⟩ [.ref a] [.ref a] _ _ rfl hr e0 (hb s₁ (.ref a)) (.cons rfl .nil) (hsp H tabH hS)) fun z s' hq => ?_
  match z, hq with
  | .ok (.ret u), ⟨v, H', os, bare, un, hok', ru, qv⟩ =>
    have qv' : v = .bl true := qv
    subst qv'
    have eu : u = .bool true := ru
    subst eu
    have nofr : ∀ b : Addr, b ∉ frs ([] : List Env) := fun b z => absurd (show b ∈ ([] : List Addr) from z) List.not_mem_nil
    have grown : ∀ p ∈ cs, ∃ more : Array Value, s'.heap.get? p.2 = some { cls := .none, data := .fields more } := fun p hp => by
      obtain ⟨more, e⟩ := un.tbls p.2 #[] (tabH p hp)
      exact ⟨_, hok' p.2 _ e⟩
    have kept : ∀ b o, b ∉ T → s₁.heap.get? b = some o → s'.heap.get? b = some o := fun b o nb e => by
      cases q : H b with
      | none => exact un.keep b o e q (nofr b) List.not_mem_nil
      | some u =>
        rcases H0_some q with ⟨z, _⟩ | ⟨_, rfl, rfl⟩
        · exact absurd z nb
        · rw [En.scr] at e
          cases e
          exact (hok' b _ (un.frzs b _ _ q)).1
    refine ⟨rfl, ⟨fun b o e => ?_, fun b o e => ?_⟩, os, bare⟩
    · by_cases hbT : b ∈ T
      · obtain ⟨p, hp, rfl⟩ := List.mem_map.mp hbT
        obtain ⟨more, hm⟩ := grown p hp
        have e' := En.tab p hp
        rw [e'] at e
        cases e
        exact .inr (.inl ⟨((En.hd p hp).tab e').isCodeTable, rfl, #[], more, rfl, by rw [Array.empty_append]; exact hm⟩)
      · exact .inl (kept b o hbT e)
    · by_cases hbT : b ∈ T
      · obtain ⟨p, hp, rfl⟩ := List.mem_map.mp hbT
        obtain ⟨more, hm⟩ := grown p hp
        exact ⟨_, hm⟩
      · exact ⟨o, kept b o hbT e⟩

/-- what is to be known of a law's def at the head's end; Tb: the tables of the defs of the view -/
def LawG (l : PySem.W.OpenLaw) (w : World) (K : PySem.W.Frag) (k n : Nat) (x : Str) (mg : Str → Option Value) (fa : Addr) (h : Heap) : Prop :=
  ∃ (fd : FuncData) (cs : List (Addr × Addr)) (sp : Sp), (∀ p ∈ cs, h.get? p.2 = some { cls := .none, data := .fields #[] }) ∧ (∀ p ∈ cs, K.lookup p.2 = none) ∧ (∀ p ∈ cs, PySem.W.CodeHd h p.1 p.2) ∧ (∀ (s : Shared) (u : Value), BindsTo s fd ⟨[u], []⟩ [(x, u)]) ∧
    (∀ (H : Hp) (a : Addr) (ns : List Int), ns.length ≤ n → (∀ z ∈ ns, Builtin.Int.intBits z ≤ 1048576) → (∀ p ∈ cs, H p.2 = some (.tbl #[])) → SqL K H a (ns.map V.int) → sp [.ref a] H (fun v _ => v = .bl true) fun _ _ _ => False) ∧
    ∀ base : Heap, K.In base → base.Ns mainGlobals mg → (∀ p ∈ cs, GxR.TabB base mg p.1 p.2) → FnG l.prog w K mg base k fa fd [x] sp
theorem walkG {l : PySem.W.OpenLaw} {n k : Nat} {q : Program} {loose : List Str} {XP : (Str → Option Value) → Heap → Prop} {YP : World → Heap → Prop} {d : DefRec} {K : Params → PySem.W.Frag} {x : Str}
    (hn : l.most = some n) (hn2 : n ≤ sizeLine) (hdf : d.params.defaults = []) (hr : Room k callerA) (hY : ∀ (w : World) (h : Heap), YP w h → (K w.params).In h)
    (F : ∀ (w : World) (mg : Str → Option Value) (fa : Addr) (h : Heap), (K w.params).In h → h.Ns mainGlobals mg → mg d.name = some (.ref fa) →
      (∀ (y : Str) (dr : DefRec) (c P : Addr), (recsOf q).find? (fun e => e.name == y) = some dr → PySem.W.tabIn (K w.params) y = some (c, P) → PySem.W.CodeHd h c P ∧ h.get? P = some { cls := .none, data := .fields #[] }) → LawG l w (K w.params) k n x mg fa h) :
    PySem.W.WalkO q loose XP YP l.row.toRowW d [] (fun f vs => PySem.call f vs) := by
  refine Att.attach_callB hn hdf fun w s₀ s₁ mg mb fa o pm cd doc a vs ns G Y ho hd hcd hmg hobj hints hlen hbits hg => ?_
  have kin := hY w _ Y
  obtain ⟨fd, cs, sp, h1, h2, h3, hb, hsp, hF⟩ := F w mg fa _ kin G.T.g hmg fun y dr c P e1 e2 => PySem.W.tab_of G.T kin e1 e2
  exact law_callG ⟨kin, G.T.g, G.T.b, G.T.builtins, G.T.nolimit, hg, h1, h2, h3, G.T.bmain, hobj, hints, Nat.le_trans hlen hn2⟩ hr hF hb fun H hH hS => hsp H a ns hlen hbits hH hS
end Lb

set_option Elab.async false
set_option linter.all false
set_option maxRecDepth 100000
set_option maxHeartbeats 2000000
namespace Lb
open PySem PySem.Spec PyProof.Rows L2

/-! ### small data: depth at most n, text at most m signs -/
structure Nice (n m : Nat) (d : PyData) : Prop where
  dep : d.depth ≤ n
  lay : d.canLay0 = true
  shw : d.showable = true
  txt : d.shown.length ≤ m
theorem Nice.mono {n m n' m' : Nat} {d : PyData} (h : Nice n m d) (h1 : n ≤ n') (h2 : m ≤ m') : Nice n' m' d := ⟨Nat.le_trans h.dep h1, h.lay, h.shw, Nat.le_trans h.txt h2⟩
theorem Nice.shaped {n m : Nat} {d : PyData} (h : Nice n m d) (hn : n ≤ 64) : SeqAt.shaped d = true := by
  unfold SeqAt.shaped
  rw [h.lay, decide_eq_true (Nat.le_trans h.dep hn)]
  rfl
theorem Nice.refl {n m : Nat} {d : PyData} (h : Nice n m d) : PyData.eqv d d = true := PySem.SeqAt.eqv_refl_plain d (PyData.plain_of_canLay0 d h.lay)
theorem Nice.noDict {n m : Nat} {d : PyData} (h : Nice n m d) : d.hasDict = false := PyData.hasDict_of_canLay d h.lay
theorem small_text : ∀ k : Fin 100, ((toString ((k.val : Nat) : Int) : String) : Str).length ≤ 2 := by decide +kernel
theorem nice_int {k : Nat} (h : k < 100) : Nice 0 2 (.int (k : Int)) := by
  refine ⟨Nat.le_refl _, rfl, ?_, small_text ⟨k, h⟩⟩
  show decide (((k : Int)).natAbs.log2 < 1920) = true
  refine decide_eq_true ?_
  rw [Int.natAbs_natCast]
  by_cases h0 : k = 0
  · subst h0
    decide
  · have := (Nat.log2_lt h0 (k := 1920)).mpr (Nat.lt_of_lt_of_le h (Nat.le_trans (by decide : 100 ≤ 2 ^ 7) (Nat.pow_le_pow_right (by decide) (by decide))))
    exact this
theorem textFrom_le : ∀ (ts : List Str) (k : Nat) (acc : Str), (textFrom k acc ts).length ≤ acc.length + piled ts
  | [], k, acc => Nat.le_refl _
  | t :: r, k, acc => by
    have h := textFrom_le r (k + 1) (acc ++ (if k > 0 then ", " else "" : String) ++ t)
    have e : (acc ++ (if k > 0 then ", " else "" : String) ++ t : Str).length ≤ acc.length + 2 + t.length := by
      rw [strLen_append, strLen_append]
      split
      · exact Nat.le_refl _
      · show acc.length + 0 + t.length ≤ _
        omega
    rw [piled_cons]
    exact Nat.le_trans h (by omega)
theorem piled_bound {m : Nat} : ∀ ts : List Str, (∀ t ∈ ts, t.length ≤ m) → piled ts ≤ (m + 2) * ts.length
  | [], _ => Nat.le_refl _
  | t :: r, h => by
    rw [piled_cons, List.length_cons, Nat.mul_add]
    have h1 := h t (.head _)
    have h2 := piled_bound r fun x hx => h x (.tail _ hx)
    omega
theorem shownAll_map : ∀ ds : List PyData, PyData.shownAll ds = ds.map PyData.shown
  | [] => by rw [PyData.shownAll]; rfl
  | d :: r => by rw [PyData.shownAll, shownAll_map r]; rfl
theorem all_nice {n m : Nat} : ∀ ds : List PyData, (∀ d ∈ ds, Nice n m d) → PyData.depthAll ds ≤ n ∧ PyData.canLayAll0 ds = true ∧ PyData.showableAll ds = true
  | [], _ => ⟨by rw [PyData.depthAll]; exact Nat.zero_le _, by rw [PyData.canLayAll0], by rw [PyData.showableAll]⟩
  | d :: r, h => by
    have h1 := h d (.head _)
    obtain ⟨a, b, c⟩ := all_nice r fun x hx => h x (.tail _ hx)
    refine ⟨?_, ?_, ?_⟩
    · rw [PyData.depthAll]
      exact Nat.max_le.mpr ⟨h1.dep, a⟩
    · rw [PyData.canLayAll0, h1.lay, b]
      rfl
    · rw [PyData.showableAll, h1.shw, c]
      rfl
theorem shown_pile {n m : Nat} {ds : List PyData} (h : ∀ d ∈ ds, Nice n m d) : piled (PyData.shownAll ds) ≤ (m + 2) * ds.length := by
  have z := piled_bound (m := m) (PyData.shownAll ds) (by
    rw [shownAll_map]
    intro t ht
    obtain ⟨d, hd, rfl⟩ := List.mem_map.mp ht
    exact (h d hd).txt)
  rw [shownAll_map, List.length_map] at z
  rw [shownAll_map]
  exact z
theorem nice_list {n m : Nat} {ds : List PyData} (h : ∀ d ∈ ds, Nice n m d) : Nice (n + 1) ((m + 2) * ds.length + 4) (.list ds) := by
  obtain ⟨a, b, c⟩ := all_nice ds h
  refine ⟨?_, ?_, ?_, ?_⟩
  · rw [PyData.depth]
    omega
  · rw [PyData.canLay0]
    exact b
  · rw [PyData.showable]
    exact c
  · rw [PyData.shown]
    unfold listText
    rw [strLen_append]
    have z := textFrom_le (PyData.shownAll ds) 0 "["
    have z2 := shown_pile h
    have e1 : (("[" : String) : Str).length = 1 := rfl
    have e2 : (("]" : String) : Str).length = 1 := rfl
    omega
theorem nice_tup {n m : Nat} {ds : List PyData} (h : ∀ d ∈ ds, Nice n m d) : Nice (n + 1) ((m + 2) * ds.length + 4) (.tuple ds) := by
  obtain ⟨a, b, c⟩ := all_nice ds h
  refine ⟨?_, ?_, ?_, ?_⟩
  · rw [PyData.depth]
    omega
  · rw [PyData.canLay0]
    exact b
  · rw [PyData.showable]
    exact c
  · rw [PyData.shown]
    unfold tupleText
    rw [strLen_append, strLen_append]
    have z2 := shown_pile h
    have e1 : (("(" : String) : Str).length = 1 := rfl
    have e3 : ((if ((PyData.shownAll ds).length == 1) = true then (",)" : String) else ")" : String) : Str).length ≤ 2 := by split <;> decide
    have z : (Str.join ", " (PyData.shownAll ds)).length ≤ piled (PyData.shownAll ds) := by
      by_cases e : PyData.shownAll ds = []
      · rw [e]
        decide
      · have := join_length_add _ e
        omega
    omega

/-! ### orders as data -/
def dl (o : List Nat) : List PyData := o.map fun k : Nat => PyData.int (k : Int)
theorem nice_ord {o : List Nat} (h : ∀ k ∈ o, k < 100) (hl : o.length ≤ 100) : Nice 1 404 (.list (dl o)) ∧ Nice 1 404 (.tuple (dl o)) := by
  have z : ∀ d ∈ dl o, Nice 0 2 d := fun d hd => by
    obtain ⟨k, hk, rfl⟩ := List.mem_map.mp hd
    exact nice_int (h k hk)
  have e : (dl o).length = o.length := List.length_map _
  exact ⟨(nice_list z).mono (Nat.le_refl _) (by rw [e]; omega), (nice_tup z).mono (Nat.le_refl _) (by rw [e]; omega)⟩
end Lb

set_option Elab.async false
set_option linter.all false
set_option maxRecDepth 100000
set_option maxHeartbeats 2000000
namespace Lb
open PySem PySem.Spec PyProof.Rows L2

/-! ### orders as lists of whole numbers -/
def vl (o : List Nat) : List V := (o.map fun k : Nat => (k : Int)).map V.int
theorem vl_len (o : List Nat) : (vl o).length = o.length := by unfold vl; rw [List.length_map, List.length_map]
theorem vl_get {o : List Nat} {i k : Nat} (h : o[i]? = some k) : (vl o)[i]? = some (.int (k : Int)) := by
  unfold vl
  rw [List.getElem?_map, List.getElem?_map, h]
  rfl
theorem rg_vl (n : Nat) : rgV 1 ((n : Int) + 1) = vl (List.range' 1 n) := by
  unfold rgV vl
  rw [show ((n : Int) + 1 - 1).toNat = n by omega, List.range'_eq_map_range, List.map_map, List.map_map]
  apply List.map_congr_left
  intro k _
  show V.int (1 + (k : Int)) = V.int (((1 + k : Nat)) : Int)
  rw [show ((1 + k : Nat) : Int) = 1 + (k : Int) by omega]
structure IsOrd (o : List Nat) : Prop where
  lo : 1 ≤ o.length
  hi : o.length ≤ 9
  perm : o.Perm (List.range' 1 o.length)

theorem dp_vl {K : PySem.W.Frag} {H : Hp} : ∀ o : List Nat, DpAll K H (vl o) (dl o)
  | [] => .nil
  | k :: r => .cons (.int _) (dp_vl r)
theorem IsOrd.small {o : List Nat} (h : IsOrd o) : ∀ k ∈ o, 1 ≤ k ∧ k ≤ o.length := fun k hk => by
  have z := (h.perm.mem_iff (a := k)).mp hk
  obtain ⟨i, hi, e⟩ := List.mem_range'.mp z
  omega
theorem IsOrd.nice {o : List Nat} (h : IsOrd o) : Nice 1 404 (.list (dl o)) ∧ Nice 1 404 (.tuple (dl o)) := nice_ord (fun k hk => by have := h.small k hk; have := h.hi; omega) (by have := h.hi; omega)
/-- the code tables of the defs that make generators -/
def Tabs (H : Hp) (T : Addr → Prop) : Prop := ∀ t, T t → GxR.TabG H t
theorem Tabs.put {T : Addr → Prop} {H : Hp} {p : Addr} {o : HO} (h : Tabs H T) (n : ¬ T p) : Tabs (upd H p o) T := fun t ht => by
  obtain ⟨ps, e, q⟩ := h t ht
  have ne : p ≠ t := fun z => n (by rw [z]; exact ht)
  exact ⟨ps, by rw [upd_ne ne.symm]; exact e, q⟩
def Go (T : Addr → Prop) (H H' : Hp) : Prop := Tabs H' T ∧ ∀ b u, ¬ T b → H b = some u → H' b = some u
theorem Go.refl {T : Addr → Prop} {H : Hp} (h : Tabs H T) : Go T H H := ⟨h, fun _ _ _ e => e⟩
theorem Go.trans {T : Addr → Prop} {H H1 H2 : Hp} (a : Go T H H1) (b : Go T H1 H2) : Go T H H2 := ⟨b.1, fun c u n e => b.2 c u n (a.2 c u n e)⟩
theorem Go.tabbed {T : Addr → Prop} {t : Addr} {H H' : Hp} (ht : T t) (h0 : Tabs H T) (h : GxR.Tabbed t H H') : Go T H H' := by
  refine ⟨fun x hx => ?_, fun b u n e => by rw [h.2 b fun z => n (by rw [z]; exact ht)]; exact e⟩
  by_cases e : x = t
  · rw [e]
    exact h.1
  · obtain ⟨ps, e2, q⟩ := h0 x hx
    exact ⟨ps, by rw [h.2 x e]; exact e2, q⟩
theorem tab_ne {T : Addr → Prop} {p : Addr} {H : Hp} (h : Tabs H T) (n : H p = none) : ¬ T p := fun z => by
  obtain ⟨ps, e, _⟩ := h p z
  rw [e] at n
  cases n
theorem Go.new {T : Addr → Prop} {p : Addr} {H : Hp} {o : HO} (h : Tabs H T) (n : H p = none) : Go T H (upd H p o) :=
  ⟨h.put (tab_ne h n), fun b u _ e => by
    rw [upd_ne (ne_of_none e n)]
    exact e⟩
theorem Go.free {T : Addr → Prop} {p : Addr} {H H' : Hp} (g : Go T H H') (n : H' p = none) : H p = none := by
  cases e : H p with
  | none => rfl
  | some u =>
    have := g.2 p u (tab_ne g.1 n) e
    rw [n] at this
    cases this
theorem ne_tab {T : Addr → Prop} {a : Addr} {H : Hp} {u : HO} (h : Tabs H T) (e : H a = some u) (nu : ∀ ps, u ≠ .tbl ps) : ¬ T a := fun z => by
  obtain ⟨ps, e2, _⟩ := h a z
  rw [e2] at e
  cases e
  exact nu ps rfl
theorem Go.ord {T : Addr → Prop} {a : Addr} {H H' : Hp} {b : Bool} {xs : List V} (g : Go T H H') (t : Tabs H T) (h : OrdK b H a xs) : OrdK b H' a xs := by
  cases b with
  | false => exact g.2 a _ (ne_tab t h fun _ z => by cases z) h
  | true =>
    obtain ⟨o, d, h⟩ := h
    exact ⟨o, d, g.2 a _ (ne_tab t h fun _ z => by cases z) h⟩
theorem Go.seqL {K : PySem.W.Frag} {T : Addr → Prop} {a : Addr} {H H' : Hp} {xs : List V} (g : Go T H H') (t : Tabs H T) (h : SqL K H a xs) : SqL K H' a xs := by
  rcases h with (h | ⟨o, h⟩) | h
  · exact .inl (.inl (g.2 a _ (ne_tab t h fun _ z => by cases z) h))
  · exact .inl (.inr ⟨o, g.2 a _ (ne_tab t h fun _ z => by cases z) h⟩)
  · exact .inr h
theorem Go.seqT {K : PySem.W.Frag} {T : Addr → Prop} {a : Addr} {H H' : Hp} {xs : List V} (g : Go T H H') (t : Tabs H T) (h : SqT K H a xs) : SqT K H' a xs := by
  rcases h with (h | ⟨o, h⟩) | h
  · exact .inl (.inl (g.2 a _ (ne_tab t h fun _ z => by cases z) h))
  · exact .inl (.inr ⟨o, g.2 a _ (ne_tab t h fun _ z => by cases z) h⟩)
  · exact .inr h
theorem Go.lt {K : PySem.W.Frag} {T : Addr → Prop} {a : Addr} {H H' : Hp} {xs : List V} (g : Go T H H') (t : Tabs H T) (h : SeqLT K H a xs) : SeqLT K H' a xs := h.imp (g.seqL t) (g.seqT t)

/-! ### the text -/
def topS (i : Nat) : Stmt := PySem.Challenge.pw_lowerboards_k25_whole_corners_counted.main.body.getD i (.Pass ⟨0, 0, 0, 0⟩)
abbrev s_is_integer : Stmt := topS 2
abbrev s_is_order : Stmt := topS 3
theorem sc_is_order : FnScope ["value"] ["value"] (defScope s_is_order) := ⟨rfl, rfl, rfl, by decide +kernel, rfl, by decide +kernel, by decide +kernel⟩

section
variable {P : Program} {w : World} {K : PySem.W.Frag} {mg : Str → Option Value} {base : Heap} {T : Addr → Prop}

/-- what of the built-ins the program leaves as it is -/
structure Bl (mg : Str → Option Value) : Prop where
  isinstance : mg "isinstance" = none
  int : mg "int" = none
  bool : mg "bool" = none
  list : mg "list" = none
  tuple : mg "tuple" = none
  len : mg "len" = none
  all : mg "all" = none
  sorted : mg "sorted" = none
  range : mg "range" = none

/-- is_integer of an int, at the library's level -/
theorem isint_call {fI : Addr} {fdI : FuncData} (FI : Fun K "is_integer" "is_integer" s_is_integer fI fdI) (B : Bl mg) (M : L2.Mod K mg base) {A : Around} {R : Result → Shared → Prop} {s : Shared} {i : Int} {t : Tok} (hd : A.depth < recursionLimit) (hk : ∀ b o, base.get? b = some o → s.heap.get? b = some o)
    (h : ∀ s', PySem.Keeps s s' → R (.ok (.ret (.bool true))) s') : codeAny (model P w) A (.call (.ref fI) ⟨[.int i t], []⟩) R s := by
  obtain ⟨oc, od, kV, doc, pm, an, cdv, ct, osl, rfl, lk, hcd⟩ := FI.ex
  refine Att.call_fn (binds := [("value", .int i t)]) (M.kin.keeps hk) (M.nolimit.keeps hk) lk hcd hd (BindsTo.of_eq (by first | rfl | with_unfolding_all rfl)) (by first | rfl | decide | with_unfolding_all rfl) (fun s₁ IC => ?_) rfl rfl rfl
  obtain ⟨h₁, tk₁, rfl⟩ := IC.toInCall.same
  have k1 : ∀ b o, s.heap.get? b = some o → h₁.get? b = some o := IC.toInCall.keep
  have hn := IC.toInCall.ns
  have kb : ∀ b o, base.get? b = some o → h₁.get? b = some o := fun b o e => k1 b o (hk b o e)
  obtain ⟨mb, n1, n2⟩ := M.blt
  have isi : ∀ {tp : String} {b : Bool} {p1 p2 p3 p4 : Pos} {x : Str} {tk : Nat} {E' : Value → Shared → Prop} {Q : Value → Shared → Prop} (_ : mg x = none) (_ : bootBuiltins x = some (.type tp)) (_ : x ≠ "__name__") (_ : (x == ("__debug__" : Str)) = false)
      (_ : (envOfC "is_integer" (defScope s_is_integer) s.heap.objs.size fI cdv).kindOf x = some .globalImplicit) (_ : PySem.W.kitOne K (.type "int") (.type tp) = some b) (_ : ∀ tk', Q (.bool b) ⟨h₁, s.gens, s.drawn, tk', s.os⟩),
      wpAny (model P w) (A.deeper (envOfC "is_integer" (defScope s_is_integer) s.heap.objs.size fI cdv)) (eval (.Call (.Name "isinstance" p1) [.Name "value" p2, .Name x p3] [] p4) (envOfC "is_integer" (defScope s_is_integer) s.heap.objs.size fI cdv)) Q E' ⟨h₁, s.gens, s.drawn, tk, s.os⟩ := by
    intro tp b p1 p2 p3 p4 x tk E' Q m1 m2 m3 m4 m5 m6 q
    refine wpAny_Call_Name_kw (Calls.Name_function_global rfl (by rfl) (Calls.loadGlobal_builtin (M.glob.keeps kb) B.isinstance (n1.keeps kb) ((n2 _ (by decide)).trans (by decide +kernel : bootBuiltins "isinstance" = some (.builtin "isinstance"))) ?_) (by decide))
    refine PyProof.Rows.callWith_builtin1 ?_ (by rfl) (by rfl)
    show wpAny _ _ (spliced ((false, eval (.Name "value" p2) _) :: (false, eval (.Name x p3) _) :: [])) _ _ _
    refine Calls.spliced_cons (wpAny_Name (wpAny_loadName_local (v := .int i t) rfl (by rfl) hn (by rfl) (Calls.spliced_cons (Calls.Name_function_global rfl m5 (Calls.loadGlobal_builtin (M.glob.keeps kb) m1 (n1.keeps kb) ((n2 _ m3).trans m2) (Calls.spliced_nil ?_)) m4))) (by decide))
    exact PySem.W.kia_one (PySem.W.kitx_int) (M.kin.keeps kb) True.intro m6 (fun z => nomatch z) q
  refine wpAny_execs_cons (wpAny_Return_some ?_)
  refine BoolOp_and (isi (tp := "int") B.int (by decide +kernel) (by decide) (by decide) (by rfl) (kit_ty (r := true) (by decide +kernel)) fun tk => ?_)
  refine wpAny_truthy_bool ?_
  refine BoolOp_one (UnaryOp_ (isi (tp := "bool") B.bool (by decide +kernel) (by decide) (by decide) (by rfl) (kit_ty (r := false) (by decide +kernel)) fun tk => ?_))
  exact not_of (wpAny_truthy_bool (h _ ⟨h₁, tk, rfl, k1⟩))
/-- the elements of is_order's generator -/
theorem elt_isint {X : Cx} {fI : Addr} {fdI : FuncData} {scope : Scope} {p1 p2 p3 : Pos} {k : Nat} (FI : Fun X.K "is_integer" "is_integer" s_is_integer fI fdI) (B : Bl X.mg) (gI : X.mg "is_integer" = some (.ref fI)) (hr : Room k X.A)
    (hk : scope.kind = .function) (h1 : scope.names.lookup ("is_integer" : Str) = some .globalImplicit) (h2 : scope.names.lookup ("thing" : Str) = some .local) :
    EltD X scope "thing" (.Call (.Name "is_integer" p1) [.Name "thing" p2] [] p3) (fun v => ∃ i, v = .int i) (fun _ => true) := by
  rintro cenv A' E' v u s₂ m₂ M rv ⟨i, rfl⟩ hA hD hU hsc hgl hbl hb hn hm
  obtain ⟨t, rfl⟩ := rv
  have kd : cenv.scope.kind = .function := by rw [hsc]; exact hk
  have kI : cenv.kindOf "is_integer" = some .globalImplicit := by show cenv.scope.names.lookup _ = _; rw [hsc]; exact h1
  have kT : cenv.kindOf "thing" = some .local := by show cenv.scope.names.lookup _ = _; rw [hsc]; exact h2
  refine wpAny_Call_Name_kw (Calls.Name_function_global kd kI (Calls.loadGlobal_global (by rw [hgl]; exact M.glob.keeps hb) gI ?_) (by decide))
  refine PySem.W.callWith_K (h₀ := X.base) M.kin FI.kp ?_ (by rfl) (by rfl)
  show wpAny _ _ (spliced ((false, eval (.Name "thing" p2) cenv) :: [])) _ _ _
  refine Calls.spliced_cons (wpAny_Name (wpAny_loadName_local kd kT hn hm (Calls.spliced_nil ⟨M.kin.keeps hb, ?_⟩)) (by decide))
  refine wpAny_call (isint_call FI B M (by have := hr.dp; omega) hb fun s' hs => ⟨rfl, hs⟩)

theorem gens_of {env : Env} {scope : Scope} {x : Str} (h1 : scope.kind = .function) (h2 : scope.isCoroutine = false) (h3 : ∀ y ∈ scope.names, y.2 ≠ .cell ∧ y.2 ≠ .free) (h4 : scope.names.lookup (".0" : Str) = some NameKind.local) (h5 : scope.names.lookup x = some .local) : GxR.GenS env scope x :=
  ⟨h1, h2, fun y hy => (h3 y hy).1, h4, h5, fun y hy e => absurd e (h3 y hy).2⟩
theorem ty_seq {H : Hp} {a : Addr} {xs : List V} (h : SeqLT K H a xs) : ∃ t, TyX K H (.ref a) t ∧ PySem.W.kitAny K t [.type "list", .type "tuple"] = some true := by
  have kl : PySem.W.kitAny K (.type "list") [.type "list", .type "tuple"] = some true := kitAny_cons (b := true) (kit_ty (by decide +kernel)) (fun z => nomatch z) fun _ => rfl
  have kt : PySem.W.kitAny K (.type "tuple") [.type "list", .type "tuple"] = some true := kitAny_cons (b := false) (kit_ty (by decide +kernel)) (fun _ => kitAny_cons (b := true) (kit_ty (by decide +kernel)) (fun z => nomatch z) fun _ => rfl) fun z => nomatch z
  rcases h with h | h
  · rcases h with (h | ⟨o, h⟩) | ⟨o, _, _, h, hc, _⟩
    · exact ⟨_, .base (.lst h), kl⟩
    · exact ⟨_, .base (.frz h), kl⟩
    · exact ⟨_, .kList h hc, kl⟩
  · rcases h with (h | ⟨o, h⟩) | ⟨o, _, _, h, hc, _⟩
    · exact ⟨_, .base (.tup h), kt⟩
    · exact ⟨_, .fTuple h, kt⟩
    · exact ⟨_, .kTuple h hc, kt⟩
theorem lenV_seq {H : Hp} {a : Addr} {xs : List V} (h : SeqLT K H a xs) : LenV K (.ref a) H xs.length := by
  rcases h with h | h
  · exact .inl ⟨_, h, rfl⟩
  · exact .inr ⟨_, h, rfl⟩
def spIsOrder (K : PySem.W.Frag) (T : Addr → Prop) : Sp := fun vs H Q _ => ∃ (a : Addr) (o : List Nat), vs = [.ref a] ∧ SeqLT K H a (vl o) ∧ IsOrd o ∧ Tabs H T ∧ ∀ H', Go T H H' → Q (.bl true) H'
theorem sorted_is {o : List Nat} (h : IsOrd o) {ns : List Int} (hp : ns.Perm (o.map fun k : Nat => (k : Int))) (hs : ns.Pairwise (· ≤ ·)) : ns.map V.int = rgV 1 ((o.length : Int) + 1) := by
  have e : ns = (List.range' 1 o.length).map fun k : Nat => (k : Int) := by
    refine List.Perm.eq_of_pairwise (le := (· ≤ ·)) (fun a b _ _ h1 h2 => Int.le_antisymm h1 h2) hs ?_ (hp.trans (h.perm.map _))
    rw [List.pairwise_map]
    exact (List.pairwise_lt_range' (s := 1) (n := o.length) (step := 1)).imp fun h => by omega
  rw [e]
  unfold rgV
  have e2 : ((o.length : Int) + 1 - 1).toNat = o.length := by omega
  rw [e2, List.range'_eq_map_range, List.map_map, List.map_map]
  apply List.map_congr_left
  intro k _
  show V.int (((1 + k : Nat)) : Int) = V.int (1 + (k : Int))
  congr 1
theorem ok_is_order {f fI c : Addr} {fd fdI : FuncData} {tN : Tok} (F : Fun K "is_order" "is_order" s_is_order f fd) (hc : fd.code = .ref c) {t1 : Addr} (hT1 : T t1) (TB : GxR.TabB base mg c t1) (FI : Fun K "is_integer" "is_integer" s_is_integer fI fdI) (gI : mg "is_integer" = some (.ref fI)) (B : Bl mg) (mN : mg "MOST_THINGS" = some (.int 9 tN)) :
    FnOk P w K mg base CX0 2 f fd ["value"] (spIsOrder K T) := by
  obtain ⟨oc, od, kV, doc, pm, an, cdv, ct, osl, rfl, lk, hcd⟩ := F.ex
  have hc' : cdv = .ref c := hc
  subst hc'
  refine fn_of lk hcd sc_is_order (fun vs H Q E h => ?_) (fun A outer s H vs Q E hr h => ?_)
  · obtain ⟨a, o, rfl, _⟩ := h
    rfl
  · obtain ⟨a, o, rfl, hs, ho, ht, q⟩ := h
    refine ⟨_, pss_cons (ps_if (PW.pt (pw_or (pt_not (pt_val (pe_callB call_isiT (by rfl) B.isinstance (by decide +kernel) (pa_cons (pv 0) (pa_cons (pe_tup (pa_cons (pe_bltn (v := .ty "list") (by rfl) B.list (by decide +kernel) rfl) (pa_cons (pe_bltn (v := .ty "tuple") (by rfl) B.tuple (by decide +kernel) rfl) pa_nil))) pa_nil)))))
          (pw_or1 (pt_not (pt_chain op_le op_le pe_int (pe_callB call_len (by rfl) B.len PySem.boot_len (pa_cons (pv 0) pa_nil)) (pe_glob (v := .int 9) (by rfl) mN ⟨_, rfl⟩))))))
        (pss_one (ps_ret pe_bl)) pss_nil)
      (pss_cons (ps_if (pt_not (pt_val (pe_allD hr (by rfl) B.all (by decide +kernel) TB rfl (gens_of rfl rfl (by decide +kernel) (by rfl) (by rfl)) (pv 0) (elt_isint FI B gI hr rfl (by rfl) (by rfl)) (fun _ => rfl)))) (pss_one (ps_ret pe_bl)) pss_nil)
      (pss_one (ps_ret (pe_cmpR (op_eqD hr.units) (pe_callB cr_sortLT (by rfl) B.sorted (by decide +kernel) (pa_cons (pv 0) pa_nil)) (pe_listRg rfl (by rfl) B.list (prg_2 (by rfl) B.range pe_int (pe_op op_add (pe_callB call_len (by rfl) B.len PySem.boot_len (pa_cons (pv 0) pa_nil)) pe_int))) (nomark _))))), ?_⟩
    -- isinstance(value, (list, tuple))
    refine ⟨.ref a, rfl, Nat.le_of_ble_eq_true rfl, fun p hp => ?_⟩
    have g1 := Go.new (o := .tup [V.ty "list", V.ty "tuple"]) ht hp
    obtain ⟨t1, ty1, k1⟩ := ty_seq (g1.lt ht hs)
    refine ⟨.ref a, p, _, t1, _, true, rfl, upd_same, .cons (.ty _) (.cons (.ty _) .nil), ty1, k1, true, rfl, ?_⟩
    refine iteF ?_
    have l1 := lenV_seq (g1.lt ht hs)
    rw [vl_len] at l1
    have b1 := ho.lo
    have b9 := ho.hi
    refine ⟨.ref a, rfl, .ref a, o.length, rfl, l1, 1, (o.length : Int), rfl, rfl, true, congrArg V.bl (decide_eq_true (by omega)), ?_⟩
    refine iteT ⟨(o.length : Int), 9, rfl, rfl, true, congrArg V.bl (decide_eq_true (by omega)), iteF ?_⟩
    -- all(is_integer(thing) for thing in value)
    refine ⟨.ref a, rfl, a, vl o, rfl, g1.lt ht hs, fun v hv => ?_, g1.1 _ hT1, fun H2 hT => ⟨true, ?_, iteF ?_⟩⟩
    · obtain ⟨i, hi, rfl⟩ := List.mem_map.mp hv
      exact ⟨i, rfl⟩
    · rw [List.all_eq_true.mpr (fun _ _ => rfl)]
    have g2 := g1.trans (Go.tabbed hT1 g1.1 hT)
    -- sorted(value) == list(range(1, len(value) + 1))
    refine ⟨.ref a, rfl, a, _, rfl, g2.lt ht hs, by rw [List.length_map]; omega, fun ns' p2 hp1 hp2 hn2 => ?_⟩
    have g3 := g2.trans (Go.new (o := .lst (ns'.map V.int)) g2.1 hn2)
    have l3 := lenV_seq (g3.lt ht hs)
    rw [vl_len] at l3
    refine ⟨.ref a, rfl, .ref a, o.length, rfl, l3, (o.length : Int), 1, rfl, rfl, 1, (o.length : Int) + 1, rfl, rfl, RgOk.of_le (by omega) (by omega) (by omega) (by omega), fun p4 hn4 => ?_⟩
    have nt : PySem.W.Frag := K
    have e := sorted_is ho hp1 hp2
    have n42 : p2 ≠ p4 := ne_of_none upd_same hn4
    have dS : (PyData.list ((List.range' 1 o.length).map fun k : Nat => PyData.int (k : Int))) = .list (dl (List.range' 1 o.length)) := rfl
    have rg := rg_vl o.length
    have nc := (nice_ord (o := List.range' 1 o.length) (fun k hk => by obtain ⟨i, hi, e⟩ := List.mem_range'.mp hk; omega) (by rw [List.length_range']; omega)).1
    refine ⟨.list (dl (List.range' 1 o.length)), .list (dl (List.range' 1 o.length)), .lst (xs := vl (List.range' 1 o.length)) (.inl (.inl ?_)) (dp_vl _), .lst (xs := vl (List.range' 1 o.length)) (.inl (.inl ?_)) (dp_vl _), nc.shaped (by decide), nc.shaped (by decide), ?_⟩
    · rw [upd_ne n42, upd_same, ← rg, ← e]
    · rw [upd_same, rg]
    · rw [nc.refl]
      exact q _ (g3.trans (Go.new g3.1 hn4))
end
end Lb

set_option Elab.async false
set_option linter.all false
set_option maxRecDepth 100000
set_option maxHeartbeats 2000000
namespace Lb
open PySem PySem.Spec PyProof.Rows L2

def und (o : List Nat) : List Nat := (List.range' 1 o.length).map fun k => o.idxOf k + 1
def trn (o : List Nat) : List Nat := o.reverse.map fun k => o.length + 1 - k
def beh (a b : List Nat) : List Nat := b.map fun p => a.getD (p - 1) 0
def exch (o : List Nat) (i j : Nat) : List Nat := (o.set i (o.getD j 0)).set j (o.getD i 0)
theorem idx_cast (k : Nat) : ∀ o : List Nat, (o.map fun k : Nat => (k : Int)).idxOf (k : Int) = o.idxOf k
  | [] => rfl
  | x :: r => by
    rw [List.map_cons, List.idxOf_cons, List.idxOf_cons, idx_cast k r]
    by_cases e : x = k
    · subst e
      simp
    · have e2 : ¬ ((x : Int) = (k : Int)) := fun z => e (Int.ofNat.inj z)
      rw [beq_eq_false_iff_ne.mpr e2, beq_eq_false_iff_ne.mpr e]
theorem IsOrd.mem {o : List Nat} (h : IsOrd o) {k : Nat} (h1 : 1 ≤ k) (h2 : k ≤ o.length) : k ∈ o := (h.perm.mem_iff (a := k)).mpr (List.mem_range'.mpr ⟨k - 1, by omega, by omega⟩)
theorem vl_snoc (l : List Nat) (k : Nat) : vl l ++ [V.int (k : Int)] = vl (l ++ [k]) := by
  unfold vl
  rw [List.map_append, List.map_append]
  rfl
theorem take_snoc {α : Type} {l : List α} {i : Nat} {x : α} (h : l[i]? = some x) : l.take (i + 1) = l.take i ++ [x] := by
  rw [List.take_add_one, h]
  rfl
theorem small9 {n : Nat} (h : n ≤ 100) : n < sizeLine := small1000 (by omega)

theorem ix_in {n j : Nat} (hj : j < n) : ixN n (j : Int) = some j := by
  unfold ixN
  first
    | (rw [if_pos ⟨by omega, by omega⟩, Int.toNat_natCast]; done)
    | (rw [if_pos (by omega), Int.toNat_natCast]; done)
    | (simp; omega)
abbrev s_is_within_bounds : Stmt := topS 12
abbrev s_check_orders : Stmt := topS 17
abbrev s_check_order : Stmt := topS 16
theorem sc_is_integer : FnScope ["value"] ["value"] (defScope s_is_integer) := ⟨rfl, rfl, rfl, by decide +kernel, rfl, by decide +kernel, by decide +kernel⟩
theorem sc_is_within_bounds : FnScope ["value", "low", "high"] ["value", "low", "high"] (defScope s_is_within_bounds) := ⟨rfl, rfl, rfl, by decide +kernel, rfl, by decide +kernel, by decide +kernel⟩
theorem sc_check_orders : FnScope ["order", "other"] ["order", "other"] (defScope s_check_orders) := ⟨rfl, rfl, rfl, by decide +kernel, rfl, by decide +kernel, by decide +kernel⟩
theorem sc_check_order : FnScope ["order"] ["order"] (defScope s_check_order) := ⟨rfl, rfl, rfl, by decide +kernel, rfl, by decide +kernel, by decide +kernel⟩
section
variable {P : Program} {w : World} {K : PySem.W.Frag} {mg : Str → Option Value} {base : Heap} {T : Addr → Prop}

/-- a def that stands under its name, and how its arguments bind -/
structure Df (K : PySem.W.Frag) (mg : Str → Option Value) (x : Str) (st : Stmt) (ps : List Str) (f : Addr) (fd : FuncData) : Prop where
  fn : Fun K x x st f fd
  at_ : mg x = some (.ref f)
  bind : Binds K fd ps []

def spIsInt : Sp := fun vs H Q _ => ∃ i, vs = [.int i] ∧ Q (.bl true) H
theorem ok_is_integer {f : Addr} {fd : FuncData} (F : Fun K "is_integer" "is_integer" s_is_integer f fd) (B : Bl mg) : FnOk P w K mg base CX0 1 f fd ["value"] spIsInt := by
  refine F.ok sc_is_integer (fun vs H Q E h => ?_) (fun cdv A outer s H vs Q E hr h => ?_)
  · obtain ⟨i, rfl, _⟩ := h
    rfl
  · obtain ⟨i, rfl, q⟩ := h
    refine ⟨_, pss_one (ps_ret (pe_and (pe_callB call_isi (by rfl) B.isinstance (by decide +kernel) (pa_cons (pv 0) (pa_cons (pe_bltn (v := .ty "int") (by rfl) B.int (by decide +kernel) rfl) pa_nil)))
      (pe_one (pe_not (pe_callB call_isi (by rfl) B.isinstance (by decide +kernel) (pa_cons (pv 0) (pa_cons (pe_bltn (v := .ty "bool") (by rfl) B.bool (by decide +kernel) rfl) pa_nil))))))), ?_⟩
    refine ⟨.int i, rfl, .int i, .ty "int", _, _, true, rfl, .ty _, .base (.int i), kit_ty (by decide +kernel), true, rfl, ?_⟩
    refine iteT ⟨.int i, rfl, .int i, .ty "bool", _, _, false, rfl, .ty _, .base (.int i), kit_ty (by decide +kernel), false, rfl, q⟩

def spWithin : Sp := fun vs H Q _ => ∃ i lo hi : Int, vs = [.int i, .int lo, .int hi] ∧ lo ≤ i ∧ i ≤ hi ∧ Q (.bl true) H
theorem ok_is_within_bounds {f fI : Addr} {fd fdI : FuncData} (F : Fun K "is_within_bounds" "is_within_bounds" s_is_within_bounds f fd) (DI : Df K mg "is_integer" s_is_integer ["value"] fI fdI) (B : Bl mg) : FnOk P w K mg base CX0 2 f fd ["value", "low", "high"] spWithin := by
  have GI : FnOk P w K mg base CX0 1 fI fdI ["value"] spIsInt := ok_is_integer DI.fn B
  refine F.ok sc_is_within_bounds (fun vs H Q E h => ?_) (fun cdv A outer s H vs Q E hr h => ?_)
  · obtain ⟨i, lo, hi, rfl, _⟩ := h
    rfl
  · obtain ⟨i, lo, hi, rfl, h1, h2, q⟩ := h
    refine ⟨_, pss_one (ps_ret (pe_and (pe_call GI hr (by rfl) DI.at_ DI.fn.kp DI.bind .nil pass0 (pa_cons (pv 0) pa_nil)) (pe_one (pe_chain op_le op_le (pv 1) (pv 0) (pv 2))))), ?_⟩
    refine ⟨.int i, rfl, i, rfl, true, rfl, iteT ⟨.int lo, rfl, .int i, rfl, lo, i, rfl, rfl, true, congrArg V.bl (decide_eq_true h1), iteT ⟨.int hi, rfl, i, hi, rfl, rfl, ?_⟩⟩⟩
    show Q (V.bl (decide (i ≤ hi))) H
    rw [decide_eq_true h2]
    exact q

def spChk (K : PySem.W.Frag) (T : Addr → Prop) : Sp := fun vs H Q _ => ∃ (a : Addr) (o : List Nat), vs = [.ref a] ∧ SeqLT K H a (vl o) ∧ IsOrd o ∧ Tabs H T ∧ ∀ H', Go T H H' → Q .non H'
/-- the facts of is_order's def -/
structure Io (K : PySem.W.Frag) (mg : Str → Option Value) (base : Heap) (T : Addr → Prop) (c f fI : Addr) (fd fdI : FuncData) : Prop where
  f : Df K mg "is_order" s_is_order ["value"] f fd
  code : fd.code = .ref c
  TB : ∃ t, T t ∧ GxR.TabB base mg c t
  I : Df K mg "is_integer" s_is_integer ["value"] fI fdI
  N : ∃ t, mg "MOST_THINGS" = some (.int 9 t)
  B : Bl mg
variable {c fO fI : Addr} {fdO fdI : FuncData}
theorem Io.ok (O : Io K mg base T c fO fI fdO fdI) : FnOk P w K mg base CX0 2 fO fdO ["value"] (spIsOrder K T) := by
  obtain ⟨t, hN⟩ := O.N
  obtain ⟨t1, hT1, tb⟩ := O.TB
  exact ok_is_order O.f.fn O.code hT1 tb O.I.fn O.I.at_ O.B hN
theorem ok_check_order {f : Addr} {fd : FuncData} (F : Fun K "check_order" "check_order" s_check_order f fd) (O : Io K mg base T c fO fI fdO fdI) : FnOk P w K mg base CX0 3 f fd ["order"] (spChk K T) := by
  have G : FnOk P w K mg base CX0 2 fO fdO ["value"] (spIsOrder K T) := O.ok
  refine F.ok sc_check_order (fun vs H Q E h => ?_) (fun cdv A outer s H vs Q E hr h => ?_)
  · obtain ⟨a, o, rfl, _⟩ := h
    rfl
  · obtain ⟨a, o, rfl, hs, ho, ht, q⟩ := h
    refine ⟨_, pss_one (ps_if (pt_not (pt_val (pe_call G hr (by rfl) O.f.at_ O.f.fn.kp O.f.bind .nil pass0 (pa_cons (pv 0) pa_nil)))) (pss_one ps_never) pss_nil), ?_⟩
    exact ⟨.ref a, rfl, a, o, rfl, hs, ho, ht, fun H' g => ⟨true, rfl, iteF (q H' g)⟩⟩

theorem getD_of {o : List Nat} {i : Nat} (h : i < o.length) : o[i]? = some (o.getD i 0) := by
  rw [List.getElem?_eq_getElem h, List.getD_eq_getElem?_getD, List.getElem?_eq_getElem h]
  rfl
theorem vl_set (o : List Nat) (i k : Nat) : (vl o).set i (V.int (k : Int)) = vl (o.set i k) := by
  unfold vl
  rw [List.map_set, List.map_set]
def spChks (K : PySem.W.Frag) (T : Addr → Prop) : Sp := fun vs H Q _ => ∃ (a b : Addr) (o p : List Nat), vs = [.ref a, .ref b] ∧ SeqLT K H a (vl o) ∧ IsOrd o ∧ SeqLT K H b (vl p) ∧ IsOrd p ∧ o.length = p.length ∧ Tabs H T ∧ ∀ H', Go T H H' → Q .non H'
theorem ok_check_orders {f fC : Addr} {fd fdC : FuncData} (F : Fun K "check_orders" "check_orders" s_check_orders f fd) (C : Df K mg "check_order" s_check_order ["order"] fC fdC) (O : Io K mg base T c fO fI fdO fdI) : FnOk P w K mg base CX0 4 f fd ["order", "other"] (spChks K T) := by
  have G : FnOk P w K mg base CX0 3 fC fdC ["order"] (spChk K T) := ok_check_order C.fn O
  refine F.ok sc_check_orders (fun vs H Q E h => ?_) (fun cdv A outer s H vs Q E hr h => ?_)
  · obtain ⟨a, b, o, p, rfl, _⟩ := h
    rfl
  · obtain ⟨a, b, o, p, rfl, ha, ho, hb, hp, el, ht, q⟩ := h
    refine ⟨_, pss_cons (ps_expr (pe_call G hr (by rfl) C.at_ C.fn.kp C.bind .nil pass0 (pa_cons (pv 0) pa_nil)))
      (pss_cons (ps_expr (pe_call G hr (by rfl) C.at_ C.fn.kp C.bind .nil pass0 (pa_cons (pv 1) pa_nil)))
      (pss_one (ps_if (pt_cmpR op_ne (pe_callB call_len (by rfl) O.B.len PySem.boot_len (pa_cons (pv 0) pa_nil)) (pe_callB call_len (by rfl) O.B.len PySem.boot_len (pa_cons (pv 1) pa_nil)) (nomark _)) (pss_one ps_never) pss_nil))), ?_⟩
    refine ⟨.ref a, rfl, a, o, rfl, ha, ho, ht, fun H1 g1 => ⟨.ref b, rfl, b, p, rfl, g1.lt ht hb, hp, g1.1, fun H2 g2 => ?_⟩⟩
    have g := g1.trans g2
    have l1 := lenV_seq (g.lt ht ha)
    have l2 := lenV_seq (g.lt ht hb)
    rw [vl_len] at l1 l2
    refine ⟨.ref a, rfl, .ref a, _, rfl, l1, .ref b, rfl, .ref b, _, rfl, l2, rfl, _, rfl, ?_⟩
    rw [el]
    exact iteNS rfl (q H2 g)

end
end Lb

set_option Elab.async false
set_option linter.all false
set_option maxRecDepth 100000
set_option maxHeartbeats 2000000
namespace Lb
open PySem PySem.Spec PyProof.Rows L2


/-! for x in seq, seq a list (false) or a tuple (true) -/
def SqB (K : PySem.W.Frag) : Bool → Hp → Addr → List V → Prop
  | false, H, a, xs => SqL K H a xs
  | true, H, a, xs => SqT K H a xs
def ItB (K : PySem.W.Frag) (b : Bool) (a : Addr) : It := if b = true then Itt K a else Itl K a
theorem OrdK.sqB {K : PySem.W.Frag} {b : Bool} {H : Hp} {a : Addr} {xs : List V} (h : OrdK b H a xs) : SqB K b H a xs := by
  cases b with
  | false => exact h.sqL
  | true => exact h.sqT
theorem Go.sqB {K : PySem.W.Frag} {b : Bool} {T : Addr → Prop} {a : Addr} {H H' : Hp} {xs : List V} (g : Go T H H') (t : Tabs H T) (h : SqB K b H a xs) : SqB K b H' a xs := by
  cases b with
  | false => exact g.seqL t h
  | true => exact g.seqT t h
def iSeq (K : PySem.W.Frag) (tl : TE) : TI := fun σ H R => tl σ H fun x H1 => ∃ (b : Bool) (a : Addr), x = .ref a ∧ (∃ xs, SqB K b H1 a xs) ∧ R (ItB K b a) H1
theorem pi_seq {X : Cx} {tg l : Expr} {tl : TE} (hl : PE X l tl) : PI X tg l (iSeq X.K tl) := by
  refine ⟨fun pins s σ H R I h => thn (hl.run pins s σ H _ I h) fun v s1 ⟨x, H1, I1, r1, q1⟩ => ?_⟩
  obtain ⟨b, a, rfl, ⟨xs, hq⟩, q⟩ := q1
  cases r1
  have at_ : ∀ c ∈ [s1.heap.objs.size], FpOk X pins H1 c := fun c hc => by
    cases List.mem_singleton.mp hc
    exact I1.fpOk (Nat.le_refl _) (I1.hok.fresh (Nat.le_refl _))
  cases b with
  | false =>
    obtain ⟨its, rv, p, hz⟩ := I1.list hq
    exact wpAny_pyIter_list p.isList ⟨s1.heap.objs.size, [s1.heap.objs.size], _, _, H1, rfl, I1.kept (t' := s1.toks) fun b o e => Heap.get?_push_of_some _ e, turn_list a _, ⟨_, Heap.get?_push_size _ rfl, rfl, rfl⟩, at_, q⟩
  | true =>
    obtain ⟨its, rv, p, hz⟩ := I1.tuple hq
    exact wpAny_pyIter_tuple (show s1.heap.IsTuple a its.toArray from p) ⟨s1.heap.objs.size, [s1.heap.objs.size], _, _, H1, rfl, I1.kept (t' := s1.toks) fun b o e => Heap.get?_push_of_some _ e, turn_tuple a _, ⟨_, Heap.get?_push_size _ rfl, rfl, rfl⟩, at_, q⟩
theorem lc_seq {K : PySem.W.Frag} {b : Bool} {a : Addr} {xs : List V} {g : TG} {tt : TT} {te : TE} {vs : List Nat} {σ : L2.St} {H1 : Hp} {D : Addr} {Qd : Hp → Prop} (Pv : Nat → Hp → Prop) (h0 : Pv 0 (upd H1 D (.lst []))) (hl : ∀ i H, i ≤ xs.length → Pv i H → SqB K b H a xs)
    (hs : ∀ i x H, xs[i]? = some x → Pv i H → g x (wipe σ vs) H fun σ2 H2 => wipe σ2 vs = wipe σ vs ∧ tt σ2 H2 fun b H3 =>
      if b = true then te σ2 H3 fun y H4 => ∃ acc, H4 D = some (.lst acc) ∧ acc.length < sizeLine ∧ Pv (i + 1) (upd H4 D (.lst (acc ++ [y]))) else Pv (i + 1) H3) (hd : ∀ H, Pv xs.length H → Qd H) :
    ∃ W : Nat → Nat → Hp → Prop, (∃ m, W 0 m (upd H1 D (.lst []))) ∧ ∀ i m H, W i m H →
      ((ItB K b a).stop i H ∧ Qd H) ∨ ((ItB K b a).go i H ∧ ∃ Nx : Hp → Prop, (∀ H', Nx H' → ∃ m', m' < m ∧ W (i + 1) m' H') ∧ ∀ x H', (ItB K b a).yld i H x H' → g x (wipe σ vs) H' fun σ2 H2 => wipe σ2 vs = wipe σ vs ∧ tt σ2 H2 fun b H3 =>
        if b = true then te σ2 H3 fun y H4 => ∃ acc, H4 D = some (.lst acc) ∧ acc.length < sizeLine ∧ Nx (upd H4 D (.lst (acc ++ [y]))) else Nx H3) := by
  cases b with
  | false => exact lc_list Pv h0 hl hs hd
  | true => exact lc_tup Pv h0 hl hs hd
/-- len, where the written part is told -/
def rLen (K : PySem.W.Frag) : List V → Hp → VK → Prop := fun xs H Q => ∃ x n, xs = [x] ∧ LenV K x H n ∧ Q (V.int (n : Nat)) H
theorem lenK {X : Cx} : CallR X (.builtin "len") (rLen X.K) := call_len
/-- what has been made so far stands at D -/
def Made (T : Addr → Prop) (H1 : Hp) (D : Addr) (l : List Nat) (H : Hp) : Prop := Tabs H T ∧ (∀ b u, ¬ T b → b ≠ D → H1 b = some u → H b = some u) ∧ H D = some (.lst (vl l))
theorem Made.start {T : Addr → Prop} {D : Addr} {H1 : Hp} (ht : Tabs H1 T) (hD : H1 D = none) : Made T H1 D [] (upd H1 D (.lst [])) :=
  ⟨(Go.new (o := .lst []) ht hD).1, fun b u n1 n2 e => by rw [upd_ne n2]; exact e, upd_same⟩
theorem Made.go {T : Addr → Prop} {D : Addr} {H1 H : Hp} {l : List Nat} (m : Made T H1 D l H) (hD : H1 D = none) : Go T H1 H := ⟨m.1, fun b u n e => m.2.1 b u n (fun z => by rw [z, hD] at e; cases e) e⟩
theorem Made.more {T : Addr → Prop} {D : Addr} {H1 H H' : Hp} {l : List Nat} {k : Nat} (m : Made T H1 D l H) (hD : H1 D = none) (ht : Tabs H1 T) (g : Go T H H') :
    H' D = some (.lst (vl l)) ∧ Made T H1 D (l ++ [k]) (upd H' D (.lst (vl l ++ [V.int (k : Int)]))) := by
  have dT : ¬ T D := tab_ne ht hD
  refine ⟨g.2 D _ dT m.2.2, ⟨?_, fun b u n1 n2 e => ?_, ?_⟩⟩
  · exact g.1.put dT
  · rw [upd_ne n2]
    exact g.2 b u n1 (m.2.1 b u n1 n2 e)
  · rw [upd_same, vl_snoc]

section
variable {P : Program} {w : World} {K : PySem.W.Frag} {mg : Str → Option Value} {base : Heap} {T : Addr → Prop} {c fO fI : Addr} {fdO fdI : FuncData}

/-- the outcome of a def that makes a new tuple -/
def Out (T : Addr → Prop) (H : Hp) (Q : VK) (o : List Nat) : Prop := ∀ H' p, Go T H H' → H p = none → OrdK true H' p (vl o) → Q (.ref p) H'
def Cd (K : PySem.W.Frag) (mg : Str → Option Value) (fC : Addr) (fdC : FuncData) : Prop := Df K mg "check_order" s_check_order ["order"] fC fdC
theorem vl_rev (o : List Nat) : (vl o).reverse = vl o.reverse := by
  unfold vl
  rw [List.map_reverse, List.map_reverse]
end
end Lb

set_option Elab.async false
set_option linter.all false
set_option maxRecDepth 100000
set_option maxHeartbeats 2000000
namespace Lb
open PySem PySem.Spec PyProof.Rows L2

/-! ### wrong pairs -/
/-- the wrong pairs of the place i with the first k places behind it -/
def row (o : List Nat) (i k : Nat) : List (Nat × Nat) := ((List.range k).filter fun b => decide (o.getD i 0 > o.getD (i + 1 + b) 0)).map fun b => (i, i + 1 + b)
def wpTo (o : List Nat) (i j : Nat) : List (Nat × Nat) := ((List.range i).flatMap fun a => row o a (o.length - (a + 1))) ++ row o i j
def wps (o : List Nat) : List (Nat × Nat) := (List.range o.length).flatMap fun a => row o a (o.length - (a + 1))
def lev (o : List Nat) : Nat := (wps o).length
theorem row_zero (o : List Nat) (i : Nat) : row o i 0 = [] := rfl
theorem row_more (o : List Nat) (i k : Nat) : row o i (k + 1) = row o i k ++ (if o.getD i 0 > o.getD (i + 1 + k) 0 then [(i, i + 1 + k)] else []) := by
  unfold row
  rw [List.range_succ, List.filter_append, List.map_append]
  congr 1
  by_cases h : o.getD i 0 > o.getD (i + 1 + k) 0
  · rw [if_pos h, List.filter_cons_of_pos (by exact decide_eq_true h)]
    rfl
  · rw [if_neg h, List.filter_cons_of_neg (by rw [decide_eq_false h]; exact Bool.false_ne_true)]
    rfl
theorem wpTo_more (o : List Nat) (i k : Nat) : wpTo o i (k + 1) = wpTo o i k ++ (if o.getD i 0 > o.getD (i + 1 + k) 0 then [(i, i + 1 + k)] else []) := by
  unfold wpTo
  rw [row_more, List.append_assoc]
theorem wpTo_next (o : List Nat) (i : Nat) : wpTo o (i + 1) 0 = wpTo o i (o.length - (i + 1)) := by
  unfold wpTo
  rw [List.range_succ, List.flatMap_append, row_zero, List.append_nil, List.flatMap_cons, List.flatMap_nil, List.append_nil]
theorem wpTo_end (o : List Nat) : wpTo o o.length 0 = wps o := by
  unfold wpTo wps
  rw [row_zero, List.append_nil]
theorem row_le (o : List Nat) (i k : Nat) : (row o i k).length ≤ k := by
  unfold row
  rw [List.length_map]
  exact Nat.le_trans (List.length_filter_le _ _) (by rw [List.length_range]; exact Nat.le_refl _)
theorem flat_le {f : Nat → List (Nat × Nat)} {c : Nat} (h : ∀ a, (f a).length ≤ c) : ∀ l : List Nat, (l.flatMap f).length ≤ c * l.length
  | [] => Nat.le_refl _
  | a :: r => by
    rw [List.flatMap_cons, List.length_append, List.length_cons, Nat.mul_add]
    have := h a
    have := flat_le h r
    omega
theorem wpTo_le {o : List Nat} {i j : Nat} (h : o.length ≤ 9) (hi : i ≤ 9) (hj : j ≤ 9) : (wpTo o i j).length ≤ 90 := by
  unfold wpTo
  rw [List.length_append]
  have h1 := flat_le (f := fun a => row o a (o.length - (a + 1))) (c := 9) (fun a => Nat.le_trans (row_le _ _ _) (by omega)) (List.range i)
  rw [List.length_range] at h1
  have h2 := row_le o i j
  omega

def PairsAt (H : Hp) (ts : List Addr) (ps : List (Nat × Nat)) : Prop := Paired (fun t (p : Nat × Nat) => H t = some (.tup [V.int (p.1 : Int), V.int (p.2 : Int)])) ts ps
theorem PairsAt.keep {H H' : Hp} {ts : List Addr} {ps : List (Nat × Nat)} (h : PairsAt H ts ps) (k : ∀ b xs, H b = some (.tup xs) → H' b = some (.tup xs)) : PairsAt H' ts ps := Paired.mapP h fun _ _ e => k _ _ e
theorem Paired.snoc {α β : Type} {R : α → β → Prop} {x : α} {y : β} : ∀ {l : List α} {m : List β}, Paired R l m → R x y → Paired R (l ++ [x]) (m ++ [y])
  | _, _, .nil, r => .cons r .nil
  | _, _, .cons q t, r => .cons q (Paired.snoc t r)

/-- the pairs made so far stand at D -/
structure PMade (T : Addr → Prop) (H1 : Hp) (D : Addr) (ps : List (Nat × Nat)) (H : Hp) : Prop where
  tab : Tabs H T
  old : ∀ b u, ¬ T b → H1 b = some u → H b = some u
  new : ∃ ts : List Addr, H D = some (.lst (ts.map V.ref)) ∧ PairsAt H ts ps
section
variable {P : Program} {w : World} {K : PySem.W.Frag} {mg : Str → Option Value} {base : Heap} {T : Addr → Prop} {c fO fI : Addr} {fdO fdI : FuncData}

theorem ix_at {H : Hp} {a : Addr} {o : List Nat} {i : Nat} {k : Int} {Q : VK} (h : SeqLT K H a (vl o)) (hi : i < o.length) (hk : k = (i : Int)) (q : Q (.int ((o.getD i 0 : Nat) : Int)) H) : rIx K (.ref a) (.int k) H Q := by
  subst hk
  have e := atI_nat (vl_get (getD_of hi))
  rcases h with h | h
  · exact .inl ⟨a, _, _, _, rfl, rfl, h, e, q⟩
  · exact .inr (.inl ⟨a, _, _, _, rfl, rfl, h, e, q⟩)
end
end Lb

set_option Elab.async false
set_option linter.all false
set_option maxRecDepth 100000
set_option maxHeartbeats 2000000
namespace Lb
open PySem PySem.Spec PyProof.Rows L2
open AutoSeq1 (wpAny_loadPart')

/-! ### for i, x in enumerate(t), t a tuple -/
theorem enum_newT (t : Addr) (items : Array Value) (n : Nat) (dd : Option Addr) (sl : Array (Option Value)) :
    Meets (Builtin.«enumerate.__new__» ⟨[.type "enumerate", .ref t], []⟩) (fun _ R s => s.heap.get? t = some ⟨.type "tuple", dd, .seq items n, sl⟩ ∧
      R (.ok (.ret (.ref (s.heap.push { cls := .type "tuple_iterator", data := .fields #[.ref t, .int 0 0] }).objs.size)))
        { s with heap := (s.heap.push { cls := .type "tuple_iterator", data := .fields #[.ref t, .int 0 0] }).push { cls := .type "enumerate", data := .fields #[.none, .bool false, .ref s.heap.objs.size, rawInt 0, .none, .none] } }) :=
  .of_wp fun prog w A R s h => by
    obtain ⟨hp, g, d, tk, os⟩ := s
    obtain ⟨ho, h⟩ := h
    have hsub := sub_enumerate
    have isT : Heap.IsTuple (Shared.heap ⟨hp, g, d, tk, os⟩) t items := ⟨_, ho, rfl, n, rfl⟩
    wp_walk using wpAny_loadPart' ho
    refine wpAny_stack_any fun st => wpAny_pure ?_
    split
    · rename_i c _ _ _ _ _
      cases (c == Value.type "enumerate") <;> (wp_walk using wpAny_loadPart' ho, wpAny_pyIter_tuple isT; exact ⟨_, rfl, h⟩)
    · wp_walk using wpAny_loadPart' ho, wpAny_pyIter_tuple isT
      exact ⟨_, rfl, h⟩
theorem call_enumT {P : Program} {w : World} {A : Around} {E : Value → Shared → Prop} {s : Shared} {t : Addr} {items : Array Value} {Q : Value → Shared → Prop} (ht : s.heap.IsTuple t items)
    (h : ∀ h', IsEnum h' (s.heap.objs.size + 1) s.heap.objs.size 0 .none → h'.IsTupleIter s.heap.objs.size t 0 → (∀ b o, s.heap.get? b = some o → h'.get? b = some o) → Q (.ref (s.heap.objs.size + 1)) { s with heap := h' }) :
    wpAny (model P w) A (call (.type "enumerate") [.ref t]) Q E s := by
  obtain ⟨⟨c, dd, dt, sl⟩, ho, hc, n, hd⟩ := ht
  have hc' : c = .type "tuple" := hc
  have hd' : dt = .seq items n := hd
  subst hc' hd'
  refine callType_new F.called_enumerate (by decide) (F.typeCall_enumerate_1 _) (F.newCall_enumerate_1 _) (fun obj => F.args_object_init_2 obj _) F.entry_enumerate_new (enum_newT t items n dd sl) ⟨ho, ?_⟩
  have z : (s.heap.push { cls := .type "tuple_iterator", data := .fields #[.ref t, .int 0 0] }).objs.size = s.heap.objs.size + 1 := Heap.size_push ..
  show _ ∧ _
  rw [z]
  have he : IsEnum ((s.heap.push { cls := .type "tuple_iterator", data := .fields #[.ref t, .int 0 0] }).push { cls := .type "enumerate", data := .fields #[.none, .bool false, .ref s.heap.objs.size, rawInt 0, .none, .none] }) (s.heap.objs.size + 1) s.heap.objs.size 0 .none := by
    have q := Heap.get?_push_size (s.heap.push { cls := .type "tuple_iterator", data := .fields #[.ref t, .int 0 0] }) (o := { cls := .type "enumerate", data := .fields #[.none, .bool false, .ref s.heap.objs.size, rawInt 0, .none, .none] }) rfl
    rw [z] at q
    exact q
  exact ⟨⟨_, he, rfl⟩, h _ he ⟨_, Heap.get?_push_of_some _ (Heap.get?_push_size _ rfl), rfl, rfl⟩ fun b o x => Heap.get?_push_of_some _ (Heap.get?_push_of_some _ x)⟩
/-- the places and things of the tuple at a, each pair a new tuple -/
def IteT (K : PySem.W.Frag) (a : Addr) : It :=
  ⟨fun i H => ∃ (xs : List V) (x : V), SqT K H a xs ∧ xs[i]? = some x, fun i H v H' => ∃ T x, v = .ref T ∧ H T = none ∧ H' = upd H T (.tup [.int (i : Nat), x]) ∧ ∀ xs, SqT K H a xs → xs[i]? = some x, fun i H => ∃ xs : List V, SqT K H a xs ∧ xs.length = i⟩
theorem turn_enumT {P : Program} {w : World} {K : PySem.W.Frag} {elts : List Expr} {kk : Nat} {tpos : Pos} (a e it : Addr) :
    Turn P w K (.Tuple elts kk tpos) (IteT K a) [e, it] e (fun i h => (∃ old, IsEnum h e it ((i : Nat) : Int) old) ∧ h.IsTupleIter it a i ∧ e ≠ it) where
  mem := .head _
  obj := fun i h ⟨⟨old, he⟩, ⟨o, ho, _, hd⟩, _⟩ b hb => by
    rcases List.mem_cons.mp hb with rfl | hb
    · exact ⟨_, he, fun v q => nomatch q⟩
    · cases List.mem_singleton.mp hb
      exact ⟨o, ho, fun v q => by rw [hd] at q; cases q⟩
  keep := fun i h h' ⟨⟨old, he⟩, hi, hne⟩ k => ⟨⟨old, k e (.head _) _ he⟩, hi.at fun o q => k it (.tail _ (.head _)) o q, hne⟩
  item := by
    intro X hP hw hK hc i pins s σ H E I hf ⟨⟨old, he⟩, hit, hne⟩ ⟨xs, x, hq, hx⟩
    subst hP hw hK
    obtain ⟨its, rv, p, hz⟩ := I.tuple hq
    have isT : s.heap.IsTuple a its.toArray := p
    obtain ⟨u, hu, ru⟩ := rv.get hx
    have el : e < s.heap.objs.size := Heap.lt_size he
    have il : it < s.heap.objs.size := let ⟨_, q, _⟩ := hit; Heap.lt_size q
    have a_it : a ≠ it := fun z => by
      obtain ⟨o1, e1, c1, _⟩ := isT
      obtain ⟨o2, e2, c2, _⟩ := hit
      rw [z, e2] at e1
      cases e1
      rw [c1] at c2
      exact absurd (Value.type.inj c2) (by decide)
    have a_e : e ≠ a := fun z => by
      obtain ⟨o1, e1, c1, _⟩ := isT
      have e2 : s.heap.get? e = some _ := he
      rw [z, e1] at e2
      cases e2
      exact absurd (Value.type.inj c1) (by decide)
    have hh := I.ok.hd hc
    have hi : i < its.toArray.size := by
      rw [List.size_toArray]
      exact (List.getElem?_eq_some_iff.mp hu).1
    refine wpAny_pyNext_enum_itemD (Draws.tuple (A := X.A.in1) hh it a a_it its.toArray) he ⟨hit, isT⟩ hi hne (fun z => ?_) fun y h' tk hy ho st' hT hsz hk => ?_
    · rcases List.mem_cons.mp z with z | z
      · exact hne z
      · exact a_e (List.mem_singleton.mp z)
    · have ey : y = u := by
        have z : its.toArray[i]? = some y := hy
        rw [List.getElem?_toArray, hu] at z
        exact (Option.some.inj z).symm
      subst ey
      refine ⟨_, rfl, wpAny_letOwnedTupleGo_enum (s := { s with heap := h', toks := tk + 1 }) ho fun h'' he' sb => ?_⟩
      have hT2 : h''.get? s.heap.objs.size = some { cls := .type "tuple", data := .seq #[.int i tk, y] } := (sb.2 _ (Nat.ne_of_gt el)).trans hT
      have I1 : L2.Inv X pins σ (upd H s.heap.objs.size (.tup [.int (i : Nat), x])) { s with heap := h'', toks := tk + 1 } := by
        refine I.turnedNew (ch := [e, it]) (fun b ob hb q => ?_) hf (Nat.le_refl _) ⟨by show 2 ≤ sizeLine; decide, [.int i tk, y], .cons ⟨_, rfl⟩ (.cons ru .nil), ⟨_, hT2, rfl, _, rfl⟩⟩
        have n1 : b ≠ e := fun z => hb (by rw [z]; exact .head _)
        have n2 : b ≠ it := fun z => hb (by rw [z]; exact .tail _ (.head _))
        exact (sb.2 b n1).trans (hk b ob n1 n2 q)
      refine ⟨.ref s.heap.objs.size, _, I1, rfl, ⟨_, x, rfl, I.hok.fresh (Nat.le_refl _), rfl, fun ys hy => by rw [I.tuple_inj hy hq]; exact hx⟩, ⟨⟨y, ?_⟩, st'.1.at fun o q => (sb.2 it hne.symm).trans q, hne⟩, fun b hb => ?_⟩
      · rw [show ((i + 1 : Nat) : Int) = (i : Int) + 1 by omega]
        exact he'
      · have hb' : b < s.heap.objs.size := by
          rcases List.mem_cons.mp hb with z | z
          · rw [z]
            exact el
          · rw [List.mem_singleton.mp z]
            exact il
        rw [upd_ne (Nat.ne_of_lt hb')]
        exact (hf b hb).1
  done := by
    intro X hP hw hK hc i pins s σ H E I hf ⟨⟨old, he⟩, hit, hne⟩ ⟨xs, hq, hx⟩
    subst hP hw hK
    obtain ⟨its, rv, p, hz⟩ := I.tuple hq
    have isT : s.heap.IsTuple a its.toArray := p
    have hh := I.ok.hd hc
    have lenI := rv.length
    have a_it : a ≠ it := fun z => by
      obtain ⟨o1, e1, c1, _⟩ := isT
      obtain ⟨o2, e2, c2, _⟩ := hit
      rw [z, e2] at e1
      cases e1
      rw [c1] at c2
      exact absurd (Value.type.inj c2) (by decide)
    have ei : its.toArray.size = i := by
      rw [List.size_toArray, ← lenI]
      exact hx
    obtain ⟨f0, f1, _, f3, f4, f5⟩ := hf it (.tail _ (.head _))
    refine wpAny_pyNext_enum_endD (Draws.tuple (A := X.A.in1) hh it a a_it its.toArray) he ⟨by rw [ei]; exact hit, isT⟩ fun h' eb => ⟨rfl, I.turned (t' := s.toks) (fun b o hb q => eb b o hb q) f0 f1 f3 f4 f5⟩
  self := fun A i s Q E ⟨⟨_, he⟩, _⟩ h => wpAny_pyIter_enum he h
def iEnumT (K : PySem.W.Frag) (ta : TA) : TI := fun σ H R => ta σ H fun vs H1 => ∃ a xs, vs = [.ref a] ∧ SqT K H1 a xs ∧ R (IteT K a) H1
theorem pi_enumT {X : Cx} {e : Expr} {ta : TA} {p pos tpos : Pos} {elts : List Expr} {kk : Nat} (hg : Gl X "enumerate") (hm : X.mg "enumerate" = none) (ha : PA X [e] ta) (hs : starEach [e] X.env = [(false, eval e X.env)] := by rfl) :
    PI X (.Tuple elts kk tpos) (.Call (.Name "enumerate" p) [e] [] pos) (iEnumT X.K ta) := by
  refine ⟨fun pins s σ H R I h => Call_ (ld_blt I hg hm boot_enumerate (PyProof.Rows.callWith_type1 (thn (ha.run pos pins s σ H _ I h) fun us s1 ⟨vs, H1, I1, r1, q1⟩ => ?_) hs rfl))⟩
  obtain ⟨a, xs, rfl, hq, q⟩ := q1
  rw [Vals.ref1 r1]
  obtain ⟨its, rv, p', hz⟩ := I1.tuple hq
  refine call_enumT (show s1.heap.IsTuple a its.toArray from p') fun h' he hit hk => wpAny_pyIter_enum he ?_
  refine ⟨s1.heap.objs.size + 1, [s1.heap.objs.size + 1, s1.heap.objs.size], _, _, H1, rfl, I1.kept (t' := s1.toks) hk, turn_enumT a (s1.heap.objs.size + 1) s1.heap.objs.size, ⟨⟨.none, he⟩, hit, Nat.succ_ne_self _⟩, fun b hb => ?_, q⟩
  have le : s1.heap.objs.size ≤ b := by
    rcases List.mem_cons.mp hb with z | z
    · rw [z]
      exact Nat.le_succ _
    · rw [List.mem_singleton.mp z]
      exact Nat.le_refl _
  exact I1.fpOk le (I1.hok.fresh le)
/-- the loop over enumerate(t): the pair is a new tuple at each turn -/
theorem for_enumT {K : PySem.W.Frag} {a : Addr} {xs : List V} {g : TG} {tb : TS} {D : Ends} {σ : L2.St} {H : Hp} (Pv : Nat → L2.St → Hp → Prop) (h0 : Pv 0 σ H) (hl : ∀ i σ H, i ≤ xs.length → Pv i σ H → SqT K H a xs)
    (hs : ∀ i x σ H T, xs[i]? = some x → Pv i σ H → H T = none → g (.ref T) σ (upd H T (.tup [.int (i : Nat), x])) fun σ2 H2 => tb { D with nx := Pv (i + 1), ct := Pv (i + 1), bk := D.nx } σ2 H2) (hd : ∀ σ H, Pv xs.length σ H → D.nx σ H) :
    ∃ W : Nat → Nat → L2.St → Hp → Prop, (∃ m, W 0 m σ H) ∧ ∀ i m σ H, W i m σ H →
      ((IteT K a).stop i H ∧ D.nx σ H) ∨ ((IteT K a).go i H ∧ ∃ N : L2.St → Hp → Prop, (∀ σ' H', N σ' H' → ∃ m', m' < m ∧ W (i + 1) m' σ' H') ∧ ∀ x H', (IteT K a).yld i H x H' → g x σ H' fun σ2 H2 => tb { D with nx := N, ct := N, bk := D.nx } σ2 H2) := by
  refine ⟨fun i m σ H => m = xs.length - i ∧ i ≤ xs.length ∧ Pv i σ H, ⟨_, rfl, Nat.zero_le _, h0⟩, ?_⟩
  rintro i m σ H ⟨rfl, hi, p⟩
  have sq := hl i σ H hi p
  by_cases hlt : i < xs.length
  · refine .inr ⟨⟨xs, xs[i], sq, List.getElem?_eq_getElem hlt⟩, Pv (i + 1), fun σ' H' p' => ⟨_, by omega, rfl, hlt, p'⟩, ?_⟩
    rintro x H' ⟨T, y, rfl, hT, rfl, hy⟩
    exact hs i y σ H T (hy xs sq) p hT
  · have e : i = xs.length := by omega
    subst e
    exact .inl ⟨⟨xs, sq, rfl⟩, hd σ H p⟩
end Lb

set_option Elab.async false
set_option linter.all false
set_option maxRecDepth 100000
set_option maxHeartbeats 2000000
namespace Lb
open PySem PySem.Spec PyProof.Rows L2 GxR

/-! ### all(.. for x in a list or a tuple), names of the def within -/
section
variable {X : Cx} {pins : List (Addr × Obj)} {σ : L2.St} {H : Hp} {s : Shared}
/-- the generator's element, told for any frame of it behind the state s1 in which the generator was made; what stood there stands, but the table at P -/
def EltC (X : Cx) (P : Addr) (s1 : Shared) (scope : Scope) (x : Str) (elt : Expr) (ok : V → Prop) (pb : V → Bool) : Prop :=
  ∀ (cenv : Env) (A' : Around) (E' : Value → Shared → Prop) (v : V) (u : Value) (t : Shared) (m : Str → Option Value), RelV v u → ok v → A'.handled = none → A'.depth ≤ X.A.depth + 1 → A'.units ≤ X.A.units + 8 →
    cenv.scope = scope → cenv.globals = mainGlobals → cenv.builtins = builtinsNs → cenv.cells = cloFrom X.env.cells scope.names [] →
    (∀ b o, b ≠ P → s1.heap.get? b = some o → t.heap.get? b = some o) → t.heap.Ns cenv.locals m → m x = some u →
    wpAny (model X.prog X.w) A' (eval elt cenv) (fun y t' => y = .bool (pb v) ∧ Keeps t t') E' t
theorem gen_clo {c P : Addr} {elt iter : Expr} {x : Str} {px gpos : Pos} {scope : Scope} {te : TE} {k : Nat} {Q' : Value → Shared → Prop} {R : List V → (V → Bool) → Hp → Prop}
    (room : Room k X.A) (TB : GxR.TabB X.base X.mg c P) (own : X.env.code = .ref c) (S : GenS X.env scope x) (src : PE X iter te) (nofold : ∀ v, genFold iter X.env v = pure v) (I : Inv X pins σ H s)
    (h : te σ H fun v H1 => ∃ (a : Addr) (xs : List V) (ok : V → Prop) (pb : V → Bool), v = .ref a ∧ SeqLT X.K H1 a xs ∧ (∀ v ∈ xs, ok v) ∧ TabG H1 P ∧ (∀ ps z, Inv X ps σ H1 z → EltC X P z scope x elt ok pb) ∧ R xs pb H1)
    (hQ : ∀ xs pb H1 g s5, R xs pb H1 → ReadyL X pins σ H1 P xs pb g s5 → Q' (.ref g) s5) :
    wpAny (model X.prog X.w) X.A (eval (.GeneratorExp elt [⟨.Name x px, iter, [], 0⟩] scope gpos) X.env) Q' X.xe s := by
  have deep : X.A.depth < recursionLimit := by have := room.dp; omega
  refine wpAny_GeneratorExp_walksQD room.hd S.co (closure_ok S.free) S.cell S.dot S.loc S.kind deep (thn (src.run pins s σ H _ I h) fun u0 s1 ⟨v0, H1, I1, r0, a, xs, ok, pb, e0, hq, oks, ⟨tab, tP, tr⟩, hel, hR⟩ => ?_) nofold
  subst e0
  cases (show u0 = Value.ref a from r0)
  refine iter_seq I1 hq fun o its At F => ?_
  have gP : s1.heap.get? P = some { cls := .none, data := .fields tab } := I1.hok P _ tP
  have lowP := Heap.lt_size gP
  have grow : ∀ b u, s1.heap.get? b = some u → (s1.heap.push o).get? b = some u := fun b u e => Heap.get?_push_of_some _ e
  have nl := I1.nolimit.push o
  have stat : cStatics < s1.heap.objs.size ∧ cStatics ≠ P := by
    obtain ⟨_, ns, _⟩ := I1.nolimit
    refine ⟨ns.lt, fun e => ?_⟩
    obtain ⟨ob, _, _, g, d, _⟩ := ns
    rw [e, gP] at g
    cases g
    cases d
  refine ⟨nl, code_in_table own (TB.code.keeps fun b u e => grow b u (I1.bk b u e)) (grow P _ gP) tr fun code h3 tk more ext big gP3 tr3 => ?_⟩
  have szo : (s1.heap.push o).objs.size = s1.heap.objs.size + 1 := Heap.size_push ..
  have room3 : s1.heap.objs.size < h3.objs.size := by
    have b2 := big
    rw [szo] at b2
    exact b2
  have stays : ∀ b u, b ≠ P → s1.heap.get? b = some u → h3.get? b = some u := fun b u nb e => ext b u nb (grow b u e)
  obtain ⟨bm, ob, b1, b2, b3, b4, b5, b6, b7, b8⟩ := TB.bm
  refine wpAny_builtinsFor (m := X.mg) (by rw [I1.ok.glob]; exact Heap.Ns.extBut ((I1.mod.glob.keeps I1.bk).push o) ext TB.gP) b1 b2 (stays _ _ b4 (I1.bk _ _ b5)) b6 b7 b8 ?_
  have foot : ∀ b ∈ [s1.heap.objs.size, a], b ≠ P ∧ b < h3.objs.size := fun b hb => by
    simp only [List.mem_cons, List.not_mem_nil, or_false] at hb
    rcases hb with e | e <;> rw [e]
    · exact ⟨(Nat.ne_of_lt lowP).symm, room3⟩
    · exact ⟨(F.cls P _ gP rfl).symm, Nat.lt_trans F.low room3⟩
  refine ⟨_, _, [s1.heap.objs.size], xs.length, fun i y => its[i]? = some y, At, fun _ => true, fun i y => ∃ d, xs[i]? = some d ∧ y = .bool (pb d), rfl, F.walk, ?_, fun b hb => (foot b hb).2, nl.extBut ext stat.2, fun e => Nat.ne_of_lt stat.1 (List.mem_singleton.mp e), fun later kept => ⟨?_, ?_⟩, ?_⟩
  · exact (F.walk X.A room.hd).frame _ _ _ F.at0 fun b hb u e => ext b u (foot b hb).1 e
  · intro B E' i y t mt _ _ _ _ _ _ _
    simp only [List.forIn_nil]
    exact wpAny_pure ⟨rfl, keeps_refl _⟩
  · intro B E' i y t mt hB dB uB hy _ ln lm lk
    have lt : i < xs.length := by
      rw [F.rel.length]
      exact (List.getElem?_eq_some_iff.mp hy).1
    have at_ := List.getElem?_eq_getElem lt
    obtain ⟨y', hy', ry⟩ := F.rel.get at_
    cases hy.symm.trans hy'
    refine wpAny_mono (hel pins s1 I1 _ B E' xs[i] y t mt ry (oks _ (List.getElem_mem lt)) hB dB uB rfl I1.ok.glob rfl rfl (fun b u nb eb => ?_) ln lm) (fun z t' r => ⟨⟨_, at_, r.1⟩, r.2⟩) fun _ _ e => e
    have e3 := stays b u nb eb
    exact lk b (List.mem_range.mpr (Heap.lt_size e3)) (fun z => Nat.ne_of_lt (Heap.lt_size eb) (List.mem_singleton.mp z)) u (kept b u e3)
  · intro g h5 tk5 gen bare gt sz5 keep5 W5 start
    simp only [GxR.passing_true, List.length_range] at W5
    refine hQ xs pb H1 g _ hR ⟨_, _, _, _, _, W5.in4_1, start, fun j y t Qj Ej hy hj => ?_, fun z mv => ?_⟩
    · obtain ⟨i, hi, d, hd, rfl⟩ := hy
      obtain ⟨_, ei⟩ := List.getElem?_eq_some_iff.mp hi
      rw [List.getElem_range] at ei
      subst ei
      rw [trL_some hd] at hj
      exact wpAny_truthy_bool hj
    · have apart : ∀ b u, s1.heap.get? b = some u → b ∉ h3.objs.size :: [s1.heap.objs.size] := fun b u e hb => by
        have lb : (b : Nat) < s1.heap.objs.size := Heap.lt_size e
        simp only [List.mem_cons, List.not_mem_nil, or_false] at hb
        rcases hb with e' | e' <;> rw [e'] at lb
        · exact Nat.lt_irrefl _ (Nat.lt_trans lb room3)
        · exact Nat.lt_irrefl _ lb
      have fin := inv_tab (more := more) (h' := z.heap) (g' := z.gens) (d' := z.drawn) (t' := z.toks) I1 tP (fun b u nb e => mv.heap b u (apart b u e) (keep5 b u (stays b u nb e))) (mv.heap P _ (apart P _ gP) (keep5 P _ gP3)) (AllBare.movedS (I1.bare.push bare) mv)
      rw [sh_eta s1 z mv.os] at fin
      exact ⟨upd H1 P (.tbl (tab ++ more)), ⟨⟨tab ++ more, upd_same, tr3⟩, fun b hb => upd_ne hb⟩, fin⟩
def tAllC (X : Cx) (P : Addr) (scope : Scope) (x : Str) (elt : Expr) (te : TE) : TE := fun σ H Q => te σ H fun v H1 => ∃ (a : Addr) (xs : List V) (ok : V → Prop) (pb : V → Bool), v = .ref a ∧ SeqLT X.K H1 a xs ∧ (∀ v ∈ xs, ok v) ∧ TabG H1 P ∧ (∀ ps z, Inv X ps σ H1 z → EltC X P z scope x elt ok pb) ∧ ∀ H2, Tabbed P H1 H2 → Q (.bl (xs.all pb)) H2
theorem pe_allC {c P : Addr} {elt iter : Expr} {x : Str} {px p pos gpos : Pos} {scope : Scope} {te : TE} {k : Nat}
    (hr : Room k X.A) (hg : Gl X "all") (hm : X.mg "all" = none) (hb : bootBuiltins "all" = some (.builtin "all")) (TB : GxR.TabB X.base X.mg c P) (hcode : X.env.code = .ref c) (S : GenS X.env scope x) (hi : PE X iter te)
    (hs : ∀ v, genFold iter X.env v = pure v)
    (he : starEach [.GeneratorExp elt [⟨.Name x px, iter, [], 0⟩] scope gpos] X.env = (false, eval (.GeneratorExp elt [⟨.Name x px, iter, [], 0⟩] scope gpos) X.env) :: starEach [] X.env := by rfl) :
    PE X (.Call (.Name "all" p) [.GeneratorExp elt [⟨.Name x px, iter, [], 0⟩] scope gpos] [] pos) (tAllC X P scope x elt te) := by
  refine ⟨fun pins s σ H Q I h => ?_⟩
  refine wpAny_Call_Name_kw (ld_blt I hg hm hb ?_)
  refine PyProof.Rows.callWith_builtin1 ?_ he (by rfl)
  rw [he]
  show wpAny _ _ (spliced ((false, eval (.GeneratorExp elt [⟨.Name x px, iter, [], 0⟩] scope gpos) X.env) :: backTo pos (starEach [] X.env))) _ _ s
  refine Calls.spliced_cons (gen_clo (R := fun xs pb H1 => ∀ H2, Tabbed P H1 H2 → Q (.bl (xs.all pb)) H2) hr TB hcode S hi hs I h fun xs pb H1 g s5 hR hG => ?_)
  obtain ⟨fp, wr, G, F, St, W, hst, htr, hI⟩ := hG
  refine Calls.spliced_nil ?_
  refine call_all_walkS (W.self 0 _ _ _ hst ⟨g, fp, wr, G, _, F, St, _, rfl, W, hst, htr, fun s' hmv => ?_⟩)
  obtain ⟨H2, hT, J⟩ := hI s' hmv
  refine ⟨.bl _, H2, J, rfl, ?_⟩
  rw [all_trL pb xs]
  exact hR H2 hT
/-- a name of the def around, a cell there, as the generator's element reads it -/
theorem free_read {P : Addr} {z t : Shared} {scope : Scope} {cenv : Env} {A' : Around} {E' : Value → Shared → Prop} {Q : Value → Shared → Prop} {ps : List (Addr × Obj)} {i : Nat} {y : Str} {v : V} {p : Pos} (I : Inv X ps σ H z) (hN : X.N[i]? = some y) (hv : σ[i]? = some (some v)) (hcl : X.env.scope.names.lookup y = some .cell)
    (tP : TabG H P) (hsc : cenv.scope = scope) (hk : scope.kind = .function) (hy : scope.names.lookup y = some .free) (hcs : cenv.cells = cloFrom X.env.cells scope.names []) (uq : (cloFrom X.env.cells scope.names []).lookup y = some ((X.env.cells.lookup y).getD 0)) (old : ∀ b o, b ≠ P → z.heap.get? b = some o → t.heap.get? b = some o)
    (h : ∀ u, RelV v u → Q u t) (hd : (y == ("__debug__" : Str)) = false := by decide) (hcd : (y == ("__classdict__" : Str)) = false := by decide) : wpAny (model X.prog X.w) A' (eval (.Name y p) cenv) Q E' t := by
  obtain ⟨m, _, look⟩ := I.loc
  obtain ⟨u, ru, lk⟩ := look i y v hN hv (.inr (.inl hcl))
  have hkd : X.env.kindOf y = some .cell := hcl
  rcases lk with ⟨k1, _⟩ | ⟨_, c, hc, ic⟩
  · rw [hkd] at k1
    cases k1
  · have ncP : c ≠ P := fun e => by
      have z2 := I.freeC y c hc
      obtain ⟨tab, e2, _⟩ := tP
      rw [e, e2] at z2
      cases z2
    have ic2 : t.heap.IsCell c (some u) := by
      obtain ⟨o, go, dd⟩ := ic
      exact ⟨o, old c o ncP go, dd⟩
    exact wpAny_Name (wpAny_loadName_free (by rw [hsc]; exact hk) (by show cenv.scope.names.lookup _ = _; rw [hsc]; exact hy) (by rw [hcs, uq, hc]; rfl) ic2 (h u ru) hcd) hd
end
end Lb

set_option Elab.async false
set_option linter.all false
set_option maxRecDepth 100000
set_option maxHeartbeats 2000000
namespace Lb
open PySem PySem.Spec PyProof.Rows L2 GxR

/-! ### all(.. for i, x in enumerate(a list or a tuple)) -/
section
variable {X : Cx} {pins : List (Addr × Obj)} {σ : L2.St} {H : Hp} {s : Shared}
def trE (pb : Nat → V → Bool) (l : List V) (j : Nat) : Bool := (l[j]?.map (pb j)).getD false
theorem trE_some {pb : Nat → V → Bool} {l : List V} {j : Nat} {b : V} (h : l[j]? = some b) : trE pb l j = pb j b := by
  unfold trE
  rw [h]
  rfl
def EltE (X : Cx) (P : Addr) (s1 : Shared) (scope : Scope) (xa xb : Str) (elt : Expr) (ok : Nat → V → Prop) (pb : Nat → V → Bool) : Prop :=
  ∀ (cenv : Env) (A' : Around) (E' : Value → Shared → Prop) (i : Nat) (v : V) (k : Tok) (u : Value) (t : Shared) (m : Str → Option Value), RelV v u → ok i v → A'.handled = none → A'.depth ≤ X.A.depth + 1 → A'.units ≤ X.A.units + 8 →
    cenv.scope = scope → cenv.globals = mainGlobals → cenv.builtins = builtinsNs → cenv.cells = cloFrom X.env.cells scope.names [] →
    (∀ b o, b ≠ P → s1.heap.get? b = some o → t.heap.get? b = some o) → t.heap.Ns cenv.locals m → m xa = some (.int (i : Nat) k) → m xb = some u →
    wpAny (model X.prog X.w) A' (eval elt cenv) (fun y t' => y = .bool (pb i v) ∧ Keeps t t') E' t
/-- enumerate of a seq at a, as the generator sees it -/
structure FeedE (P : Program) (w : World) (h h' : Heap) (a : Addr) (xs : List V) (its : List Value) (St : Nat → Heap → Prop) (Mid : Nat → Addr → Heap → Prop) : Prop where
  rel : Vals xs its
  low : a < h.objs.size
  cls : ∀ p u, h.get? p = some u → u.cls = .none → p ≠ a
  keep : ∀ b o, h.get? b = some o → h'.get? b = some o
  en : IsEnum h' (h.objs.size + 1) h.objs.size 0 .none
  walk : ∀ B : Around, B.handled = none → WalksU P w B (h.objs.size + 1) [h.objs.size + 1, h.objs.size, a] [h.objs.size + 1, h.objs.size] xs.length (fun i vals => ∃ t x, its[i]? = some x ∧ vals = #[.int (i : Nat) t, x]) St Mid
  at0 : St 0 h'
theorem iter_enum {a : Addr} {xs : List V} {Q : Value → Shared → Prop} {E : Value → Shared → Prop} (I : Inv X pins σ H s) (hq : SeqLT X.K H a xs)
    (done : ∀ h' its St Mid, FeedE X.prog X.w s.heap h' a xs its St Mid → Q (.ref (s.heap.objs.size + 1)) { s with heap := h' }) : wpAny (model X.prog X.w) X.A (call (.type "enumerate") [.ref a]) Q E s := by
  rcases hq with hq | hq
  · obtain ⟨its, rel, laid, _⟩ := I.list hq
    have isL := laid.isList
    obtain ⟨oa, ga, ca, _⟩ := id isL
    have la := Heap.lt_size ga
    have nsz : its.toArray.size = xs.length := by rw [List.size_toArray, rel.length]
    refine call_enumerate_list isL fun h' he hit _ hk => done h' its (fun i m => (∃ old, IsEnum m (s.heap.objs.size + 1) s.heap.objs.size (i : Nat) old) ∧ m.IsListIter s.heap.objs.size a i ∧ m.IsList a its.toArray) (fun i t m => (∃ x, IsEnumOut m (s.heap.objs.size + 1) s.heap.objs.size ((i : Int) + 1) x t) ∧ (m.IsListIter s.heap.objs.size a (i + 1) ∧ m.IsList a its.toArray) ∧ t ≠ s.heap.objs.size + 1 ∧ t ≠ s.heap.objs.size) ⟨rel, la, fun p u gp cp e => ?_, hk, he, fun B hB => ?_, ⟨⟨_, he⟩, hit, isL.at fun o q => hk a o q⟩⟩
    · rw [e, ga] at gp
      cases gp
      rw [cp] at ca
      cases ca
    · have D := Draws.list (prog := X.prog) (w := X.w) (A := B.in1) hB s.heap.objs.size a (Nat.ne_of_lt la) its.toArray
      have W := (WalksT.enumerateD D (s.heap.objs.size + 1) (Nat.succ_ne_self _) (fun z => by
        rcases List.mem_cons.mp z with z | z
        · exact Nat.succ_ne_self _ z
        · have e := List.mem_singleton.mp z
          rw [← e] at la
          exact absurd (Nat.lt_of_succ_lt la) (Nat.lt_irrefl _)) (.head _)).toU
      rw [nsz] at W
      simpa using W
  · obtain ⟨its, rel, laid, _⟩ := I.tuple hq
    have isT : s.heap.IsTuple a its.toArray := laid
    obtain ⟨oa, ga, ca, _⟩ := id isT
    have la := Heap.lt_size ga
    have nsz : its.toArray.size = xs.length := by rw [List.size_toArray, rel.length]
    refine call_enumT isT fun h' he hit hk => done h' its (fun i m => (∃ old, IsEnum m (s.heap.objs.size + 1) s.heap.objs.size (i : Nat) old) ∧ m.IsTupleIter s.heap.objs.size a i ∧ m.IsTuple a its.toArray) (fun i t m => (∃ x, IsEnumOut m (s.heap.objs.size + 1) s.heap.objs.size ((i : Int) + 1) x t) ∧ (m.IsTupleIter s.heap.objs.size a (i + 1) ∧ m.IsTuple a its.toArray) ∧ t ≠ s.heap.objs.size + 1 ∧ t ≠ s.heap.objs.size) ⟨rel, la, fun p u gp cp e => ?_, hk, he, fun B hB => ?_, ⟨⟨_, he⟩, hit, isT.at fun o q => hk a o q⟩⟩
    · rw [e, ga] at gp
      cases gp
      rw [cp] at ca
      cases ca
    · have D := Draws.tuple (prog := X.prog) (w := X.w) (A := B.in1) hB s.heap.objs.size a (Nat.ne_of_lt la) its.toArray
      have W := (WalksT.enumerateD D (s.heap.objs.size + 1) (Nat.succ_ne_self _) (fun z => by
        rcases List.mem_cons.mp z with z | z
        · exact Nat.succ_ne_self _ z
        · have e := List.mem_singleton.mp z
          rw [← e] at la
          exact absurd (Nat.lt_of_succ_lt la) (Nat.lt_irrefl _)) (.head _)).toU
      rw [nsz] at W
      simpa using W
structure GenS2 (env : Env) (scope : Scope) (xa xb : Str) : Prop where
  kind : scope.kind = .function
  co : scope.isCoroutine = false
  cell : ∀ y ∈ scope.names, y.2 ≠ .cell
  dot : scope.names.lookup (".0" : Str) = some NameKind.local
  la : scope.names.lookup xa = some .local
  lb : scope.names.lookup xb = some .local
  ab : xa ≠ xb
  free : ∀ y ∈ scope.names, y.2 = .free → ∃ c, env.cells.lookup y.1 = some c
def tAllE (X : Cx) (P : Addr) (scope : Scope) (xa xb : Str) (elt : Expr) (ta : TA) : TE := fun σ H Q => ta σ H fun vs H1 => ∃ (a : Addr) (xs : List V) (ok : Nat → V → Prop) (pb : Nat → V → Bool), vs = [.ref a] ∧ SeqLT X.K H1 a xs ∧ (∀ i v, xs[i]? = some v → ok i v) ∧ TabG H1 P ∧ (∀ ps z, Inv X ps σ H1 z → EltE X P z scope xa xb elt ok pb) ∧ ∀ H2, Tabbed P H1 H2 → Q (.bl ((List.range xs.length).all (trE pb xs))) H2
theorem pe_allE {c P : Addr} {elt arg : Expr} {xa xb : Str} {pa pb' pt p pn pi pos gpos : Pos} {kt : Nat} {scope : Scope} {ta : TA} {k : Nat}
    (room : Room k X.A) (hg : Gl X "all") (hm : X.mg "all" = none) (hb : bootBuiltins "all" = some (.builtin "all")) (hge : Gl X "enumerate") (hme : X.mg "enumerate" = none) (TB : GxR.TabB X.base X.mg c P) (own : X.env.code = .ref c) (S : GenS2 X.env scope xa xb) (src : PA X [arg] ta)
    (nofold : ∀ v, genFold (.Call (.Name "enumerate" pn) [arg] [] pi) X.env v = pure v) (hse : starEach [arg] X.env = [(false, eval arg X.env)] := by rfl)
    (he : starEach [.GeneratorExp elt [⟨.Tuple [.Name xa pa, .Name xb pb'] kt pt, .Call (.Name "enumerate" pn) [arg] [] pi, [], 0⟩] scope gpos] X.env = (false, eval (.GeneratorExp elt [⟨.Tuple [.Name xa pa, .Name xb pb'] kt pt, .Call (.Name "enumerate" pn) [arg] [] pi, [], 0⟩] scope gpos) X.env) :: starEach [] X.env := by rfl) :
    PE X (.Call (.Name "all" p) [.GeneratorExp elt [⟨.Tuple [.Name xa pa, .Name xb pb'] kt pt, .Call (.Name "enumerate" pn) [arg] [] pi, [], 0⟩] scope gpos] [] pos) (tAllE X P scope xa xb elt ta) := by
  refine ⟨fun pins s σ H Q I h => ?_⟩
  refine wpAny_Call_Name_kw (ld_blt I hg hm hb ?_)
  refine PyProof.Rows.callWith_builtin1 ?_ he (by rfl)
  rw [he]
  show wpAny _ _ (spliced ((false, eval (.GeneratorExp elt [⟨.Tuple [.Name xa pa, .Name xb pb'] kt pt, .Call (.Name "enumerate" pn) [arg] [] pi, [], 0⟩] scope gpos) X.env) :: backTo pos (starEach [] X.env))) _ _ s
  have deep : X.A.depth < recursionLimit := by have := room.dp; omega
  refine Calls.spliced_cons (wpAny_GeneratorExp_walksQTD room.hd S.co (closure_ok S.free) S.cell S.dot S.la S.lb S.ab S.kind deep
    (Call_ (ld_blt I hge hme boot_enumerate (PyProof.Rows.callWith_type1 (thn (src.run pi pins s σ H _ I h) fun us s1 ⟨vs, H1, I1, r1, a, xs, ok, pb, e0, hq, oks, ⟨tab, tP, tr⟩, hel, hR⟩ => ?_) hse rfl))) nofold)
  subst e0
  rw [Vals.ref1 r1]
  refine iter_enum I1 hq fun h' its St Mid F => wpAny_pyIter_enum F.en ?_
  have gP : s1.heap.get? P = some { cls := .none, data := .fields tab } := I1.hok P _ tP
  have lowP := Heap.lt_size gP
  have nl := I1.nolimit.keeps F.keep
  have stat : cStatics < s1.heap.objs.size ∧ cStatics ≠ P := by
    obtain ⟨_, ns, _⟩ := I1.nolimit
    refine ⟨ns.lt, fun e => ?_⟩
    obtain ⟨ob, _, _, g, d, _⟩ := ns
    rw [e, gP] at g
    cases g
    cases d
  refine ⟨nl, code_in_table own (TB.code.keeps fun b u e => F.keep b u (I1.bk b u e)) (F.keep P _ gP) tr fun code h3 tk more ext big gP3 tr3 => ?_⟩
  have room3 : s1.heap.objs.size + 1 < h3.objs.size := Nat.lt_of_lt_of_le (Heap.lt_size F.en) big
  have stays : ∀ b u, b ≠ P → s1.heap.get? b = some u → h3.get? b = some u := fun b u nb e => ext b u nb (F.keep b u e)
  obtain ⟨bm, ob, b1, b2, b3, b4, b5, b6, b7, b8⟩ := TB.bm
  refine wpAny_builtinsFor (m := X.mg) (by rw [I1.ok.glob]; exact Heap.Ns.extBut ((I1.mod.glob.keeps I1.bk).keeps F.keep) ext TB.gP) b1 b2 (stays _ _ b4 (I1.bk _ _ b5)) b6 b7 b8 ?_
  have foot : ∀ b ∈ [s1.heap.objs.size + 1, s1.heap.objs.size, a], b ≠ P ∧ b < h3.objs.size := fun b hb => by
    have la := F.low
    have lP : (P : Nat) < s1.heap.objs.size := lowP
    simp only [List.mem_cons, List.not_mem_nil, or_false] at hb
    rcases hb with e | e | e <;> rw [e]
    · exact ⟨fun z => by rw [← z] at lP; exact absurd (Nat.lt_of_succ_lt lP) (Nat.lt_irrefl _), room3⟩
    · exact ⟨fun z => by rw [← z] at lP; exact absurd lP (Nat.lt_irrefl _), Nat.lt_of_succ_lt room3⟩
    · exact ⟨(F.cls P _ gP rfl).symm, Nat.lt_trans la (Nat.lt_of_succ_lt room3)⟩
  have wrn : ∀ b u, s1.heap.get? b = some u → b ∉ [s1.heap.objs.size + 1, s1.heap.objs.size] := fun b u e hb => by
    have lb : (b : Nat) < s1.heap.objs.size := Heap.lt_size e
    simp only [List.mem_cons, List.not_mem_nil, or_false] at hb
    rcases hb with z | z <;> rw [z] at lb
    · exact absurd (Nat.lt_of_succ_lt lb) (Nat.lt_irrefl _)
    · exact absurd lb (Nat.lt_irrefl _)
  refine ⟨_, _, [s1.heap.objs.size + 1, s1.heap.objs.size], xs.length, _, St, Mid, fun _ => true, fun i y => ∃ d, xs[i]? = some d ∧ y = .bool (pb i d), rfl, F.walk, fun i vals q => ?_, ?_, fun b hb => (foot b hb).2, nl.extBut ext stat.2, fun e => ?_, fun later kept => ⟨?_, ?_⟩, ?_⟩
  · obtain ⟨t, x, _, e⟩ := q
    exact ⟨_, _, e⟩
  · exact (F.walk X.A room.hd).frame _ _ _ F.at0 fun b hb u e => ext b u (foot b hb).1 e
  · simp only [List.mem_cons, List.not_mem_nil, or_false] at e
    have := stat.1
    rcases e with z | z <;> rw [z] at this
    · exact absurd (Nat.lt_of_succ_lt this) (Nat.lt_irrefl _)
    · exact absurd this (Nat.lt_irrefl _)
  · intro B E' i va vb t mt _ _ _ _ _ _ _ _
    simp only [List.forIn_nil]
    exact wpAny_pure ⟨rfl, keeps_refl _⟩
  · intro B E' i va vb t mt hB dB uB hy _ ln lma lmb lk
    obtain ⟨tk', x, hx, ev⟩ := hy
    have ea : va = .int (i : Nat) tk' := by
      have := congrArg (fun l : Array Value => l[0]?) ev
      simpa using this
    have eb : vb = x := by
      have := congrArg (fun l : Array Value => l[1]?) ev
      simpa using this
    subst ea eb
    have lt : i < xs.length := by
      rw [F.rel.length]
      exact (List.getElem?_eq_some_iff.mp hx).1
    have at_ := List.getElem?_eq_getElem lt
    obtain ⟨y', hy', ry⟩ := F.rel.get at_
    cases hx.symm.trans hy'
    refine wpAny_mono (hel pins s1 I1 _ B E' i xs[i] tk' vb t mt ry (oks i _ at_) hB dB uB rfl I1.ok.glob rfl rfl (fun b u nb eb => ?_) ln lma lmb) (fun z t' r => ⟨⟨_, at_, r.1⟩, r.2⟩) fun _ _ e => e
    have e3 := stays b u nb eb
    exact lk b (List.mem_range.mpr (Heap.lt_size e3)) (wrn b u eb) u (kept b u e3)
  · intro g h5 tk5 gen bare gt sz5 keep5 W5 start
    simp only [GxR.passing_true, List.length_range] at W5
    refine Calls.spliced_nil ?_
    refine call_all_walkS (W5.in4_1.self 0 _ _ _ start ⟨g, _, _, _, _, _, _, trE pb xs, rfl, W5.in4_1, start, fun j y t Qj Ej hy hj => ?_, fun z mv => ?_⟩)
    · obtain ⟨i, hi, d, hd, rfl⟩ := hy
      obtain ⟨_, ei⟩ := List.getElem?_eq_some_iff.mp hi
      rw [List.getElem_range] at ei
      subst ei
      rw [trE_some hd] at hj
      exact wpAny_truthy_bool hj
    · have apart : ∀ b u, s1.heap.get? b = some u → b ∉ h3.objs.size :: [s1.heap.objs.size + 1, s1.heap.objs.size] := fun b u e hb => by
        rcases List.mem_cons.mp hb with e' | hb
        · have lb : (b : Nat) < s1.heap.objs.size := Heap.lt_size e
          rw [e'] at lb
          exact absurd (Nat.lt_trans lb (Nat.lt_of_succ_lt room3)) (Nat.lt_irrefl _)
        · exact wrn b u e hb
      have fin := inv_tab (more := more) (h' := z.heap) (g' := z.gens) (d' := z.drawn) (t' := z.toks) I1 tP (fun b u nb e => mv.heap b u (apart b u e) (keep5 b u (stays b u nb e))) (mv.heap P _ (apart P _ gP) (keep5 P _ gP3)) (AllBare.movedS (I1.bare.push bare) mv)
      rw [sh_eta s1 z mv.os] at fin
      refine ⟨.bl _, upd H1 P (.tbl (tab ++ more)), fin, rfl, hR _ ⟨⟨tab ++ more, upd_same, tr3⟩, fun b hb => upd_ne hb⟩⟩
end
end Lb

set_option Elab.async false
set_option linter.all false
set_option maxRecDepth 100000
set_option maxHeartbeats 2000000
namespace Lb
open PySem PySem.Spec PyProof.Rows L2

/-! ### for x, y in zip(a, b), each a list or a tuple -/
/-- a list (false) or a tuple (true) -/
def SqK (K : PySem.W.Frag) (b : Bool) (H : Hp) (a : Addr) (xs : List V) : Prop := if b = true then SqT K H a xs else SqL K H a xs
def IsK (b : Bool) (h : Heap) (a : Addr) (its : Array Value) : Prop := if b = true then h.IsTuple a its else h.IsList a its
def ItK (b : Bool) (h : Heap) (it a : Addr) (i : Nat) : Prop := if b = true then h.IsTupleIter it a i else h.IsListIter it a i
/-- both at a turn, the things at it in a new pair -/
def ItzM (K : PySem.W.Frag) (b c : Bool) (l m : Addr) : It :=
  ⟨fun i H => ∃ (xs ys : List V), SqK K b H l xs ∧ SqK K c H m ys ∧ i < xs.length ∧ i < ys.length,
    fun i H v H' => ∃ (T : Addr) (x y : V), v = .ref T ∧ H T = none ∧ H' = upd H T (.tup [x, y]) ∧ (∀ xs, SqK K b H l xs → xs[i]? = some x) ∧ ∀ ys, SqK K c H m ys → ys[i]? = some y,
    fun i H => ∃ (xs ys : List V), SqK K b H l xs ∧ SqK K c H m ys ∧ i = min xs.length ys.length⟩
section
variable {X : Cx} {pins : List (Addr × Obj)} {σ : L2.St} {H : Hp} {s : Shared}
theorem Inv.sqK {b : Bool} {a : Addr} {xs : List V} (I : L2.Inv X pins σ H s) (h : SqK X.K b H a xs) : ∃ its : List Value, Vals xs its ∧ IsK b s.heap a its.toArray := by
  cases b with
  | false =>
    obtain ⟨its, rv, pl, _⟩ := I.list (show SqL X.K H a xs from h)
    exact ⟨its, rv, pl.isList⟩
  | true =>
    obtain ⟨its, rv, pl, _⟩ := I.tuple (show SqT X.K H a xs from h)
    exact ⟨its, rv, pl⟩
theorem sqK_inj {b : Bool} {a : Addr} {xs ys : List V} (I : L2.Inv X pins σ H s) (h : SqK X.K b H a xs) (h2 : SqK X.K b H a ys) : xs = ys := by
  cases b with
  | false => exact I.list_inj h h2
  | true => exact I.tuple_inj h h2
theorem isK_lt {b : Bool} {h : Heap} {a : Addr} {its : Array Value} (q : IsK b h a its) : a < h.objs.size := by
  cases b with
  | false =>
    obtain ⟨o, e, _⟩ := (show h.IsList a its from q)
    exact Heap.lt_size e
  | true =>
    obtain ⟨o, e, _⟩ := (show h.IsTuple a its from q)
    exact Heap.lt_size e
theorem drawsK {P : Program} {w : World} {A : Around} (b : Bool) (hh : A.handled = none) (it a : Addr) (hne : a ≠ it) (items : Array Value) :
    Draws P w A it [it, a] items.size (fun i v => items[i]? = some v) (fun i h => ItK b h it a i ∧ IsK b h a items) := by
  cases b with
  | false => exact Draws.list hh it a hne items
  | true => exact Draws.tuple hh it a hne items
theorem itK_obj {b : Bool} {h : Heap} {it a : Addr} {i : Nat} (q : ItK b h it a i) : ∃ o, h.get? it = some o ∧ (∀ v, o.data ≠ .cell v) ∧ ∀ h' : Heap, h'.get? it = some o → ItK b h' it a i := by
  cases b with
  | false =>
    have q' : h.IsListIter it a i := q
    obtain ⟨o, e, c, d⟩ := q'
    exact ⟨o, e, (fun v z => by rw [d] at z; cases z), fun h' e' => ⟨o, e', c, d⟩⟩
  | true =>
    have q' : h.IsTupleIter it a i := q
    obtain ⟨o, e, c, d⟩ := q'
    exact ⟨o, e, (fun v z => by rw [d] at z; cases z), fun h' e' => ⟨o, e', c, d⟩⟩
theorem turn_zipM {P : Program} {w : World} {K : PySem.W.Frag} {elts : List Expr} {kk : Nat} {tpos : Pos} {b c : Bool} {N l m : Addr} (hl : l < N) (hm : m < N) :
    Turn P w K (.Tuple elts kk tpos) (ItzM K b c l m) [N + 4, N + 2, N + 3, N, N + 1] (N + 4) (fun i h => IsZip h (N + 4) (N + 2) (N + 3) .none ∧ IsTupOf2 h (N + 2) (.ref N) (.ref (N + 1)) ∧ (∃ a1 a2, IsTupOf2 h (N + 3) a1 a2) ∧ ItK b h N l i ∧ ItK c h (N + 1) m i) where
  mem := by simp
  obj := fun i h st d hd => by
    obtain ⟨hz, hTI, ⟨x, y, hTO⟩, h1, h2⟩ := st
    obtain ⟨o1, e1, d1, _⟩ := itK_obj h1
    obtain ⟨o2, e2, d2, _⟩ := itK_obj h2
    simp only [List.mem_cons, List.not_mem_nil, or_false] at hd
    rcases hd with q | q | q | q | q
    · rw [q]; exact ⟨_, hz, fun v q => nomatch q⟩
    · rw [q]; exact ⟨_, hTI, fun v q => nomatch q⟩
    · rw [q]; exact ⟨_, hTO, fun v q => nomatch q⟩
    · rw [q]; exact ⟨o1, e1, d1⟩
    · rw [q]; exact ⟨o2, e2, d2⟩
  keep := fun i h h' st k => by
    obtain ⟨hz, hTI, ⟨x, y, hTO⟩, h1, h2⟩ := st
    obtain ⟨o1, e1, _, k1⟩ := itK_obj h1
    obtain ⟨o2, e2, _, k2⟩ := itK_obj h2
    exact ⟨k (N + 4) (by simp) _ hz, k (N + 2) (by simp) _ hTI, ⟨x, y, k (N + 3) (by simp) _ hTO⟩, k1 _ (k N (by simp) _ e1), k2 _ (k (N + 1) (by simp) _ e2)⟩
  item := by
    intro X hP hw hK hc i pins s σ H E I hf st hg
    subst hP hw hK
    obtain ⟨xs, ys, hqx, hqy, hx, hy⟩ := hg
    obtain ⟨its, rv, p⟩ := Inv.sqK I hqx
    obtain ⟨its2, rv2, p2⟩ := Inv.sqK I hqy
    have l1 := rv.length
    have l2 := rv2.length
    have hh : X.A.in1.handled = none := I.ok.hd hc
    have D1 := drawsK (P := X.prog) (w := X.w) b hh N l (Nat.ne_of_lt hl) its.toArray
    have D2 := drawsK (P := X.prog) (w := X.w) c hh (N + 1) m (Nat.ne_of_lt (Nat.lt_succ_of_lt hm)) its2.toArray
    have S := zip_sep2 (N := N) (fp1 := [l]) (fp2 := [m]) (by intro c hc; rw [List.mem_singleton.mp hc]; exact hl) (by intro c hc; rw [List.mem_singleton.mp hc]; exact hm)
    have W := GoesN.zip2 (elts := elts) (x1 := kk) (pos := tpos) S D1 D2
    obtain ⟨hz, hTI, hTO, h1, h2⟩ := st
    have hobj : ∀ c ∈ [N + 4, N + 2, N + 3, N, N + 1], c < s.heap.objs.size := fun c hc => by
      obtain ⟨x, y, hTO⟩ := hTO
      obtain ⟨o1, e1, _, _⟩ := itK_obj h1
      obtain ⟨o2, e2, _, _⟩ := itK_obj h2
      simp only [List.mem_cons, List.not_mem_nil, or_false] at hc
      rcases hc with q | q | q | q | q
      · rw [q]; exact Heap.lt_size hz
      · rw [q]; exact Heap.lt_size hTI
      · rw [q]; exact Heap.lt_size hTO
      · rw [q]; exact Heap.lt_size e1
      · rw [q]; exact Heap.lt_size e2
    refine W.goes i s (fun v s₂ => ∃ x H', L2.Inv X pins σ H' s₂ ∧ RelV x v ∧ (ItzM X.K b c l m).yld i H x H' ∧ _ ∧ ∀ d ∈ [N + 4, N + 2, N + 3, N, N + 1], H' d = none) E (by rw [List.size_toArray, List.size_toArray]; omega) ⟨hz, hTI, hTO, ⟨h1, p⟩, h2, p2⟩ (fun v h' tk hY st' hk htk => ?_)
    obtain ⟨T, x, y, rfl, hT, hx', hy', tT⟩ := hY
    have gx : its[i]? = some x := by simpa using hx'
    have gy : its2[i]? = some y := by simpa using hy'
    obtain ⟨u, hu, ru⟩ := rv.get (List.getElem?_eq_getElem hx)
    obtain ⟨u2, hu2, ru2⟩ := rv2.get (List.getElem?_eq_getElem hy)
    cases gx.symm.trans hu
    cases gy.symm.trans hu2
    have new : ObjOk X.prog X.w (upd H T (.tup [xs[i], ys[i]])) h' T (.tup [xs[i], ys[i]]) :=
      ⟨by show 2 ≤ sizeLine; decide, [x, y], .cons ru (.cons ru2 .nil), tT⟩
    have I1 : L2.Inv X pins σ (upd H T (.tup [xs[i], ys[i]])) { s with heap := h', toks := tk } :=
      I.turnedNew (ch := [N + 4, N + 2, N + 3, N, N + 1]) (fun c o hb q => hk c o (fun z => hb (by
        simp only [List.mem_cons, List.not_mem_nil, or_false] at z ⊢
        rcases z with z | z | z | z
        · exact .inl z
        · exact .inr (.inr (.inl z))
        · exact .inr (.inr (.inr (.inl z)))
        · exact .inr (.inr (.inr (.inr z))))) q) hf hT new
    obtain ⟨sz, sTI, sTO, ⟨s1, _⟩, s2, _⟩ := st'
    refine ⟨.ref T, _, I1, rfl, ⟨T, xs[i], ys[i], rfl, I.hok.fresh hT, rfl, fun l hl => ?_, fun l hl => ?_⟩, ⟨sz, sTI, sTO, s1, s2⟩, fun d hd => ?_⟩
    · rw [sqK_inj I hl hqx]
      exact List.getElem?_eq_getElem hx
    · rw [sqK_inj I hl hqy]
      exact List.getElem?_eq_getElem hy
    · rw [upd_ne (Nat.ne_of_lt (Nat.lt_of_lt_of_le (hobj d hd) hT))]
      exact (hf d hd).1
  done := by
    intro X hP hw hK hc i pins s σ H E I hf st hg
    subst hP hw hK
    obtain ⟨xs, ys, hqx, hqy, he⟩ := hg
    obtain ⟨its, rv, p⟩ := Inv.sqK I hqx
    obtain ⟨its2, rv2, p2⟩ := Inv.sqK I hqy
    have l1 := rv.length
    have l2 := rv2.length
    have hh : X.A.in1.handled = none := I.ok.hd hc
    have D1 := drawsK (P := X.prog) (w := X.w) b hh N l (Nat.ne_of_lt hl) its.toArray
    have D2 := drawsK (P := X.prog) (w := X.w) c hh (N + 1) m (Nat.ne_of_lt (Nat.lt_succ_of_lt hm)) its2.toArray
    have S := zip_sep2 (N := N) (fp1 := [l]) (fp2 := [m]) (by intro c hc; rw [List.mem_singleton.mp hc]; exact hl) (by intro c hc; rw [List.mem_singleton.mp hc]; exact hm)
    have W := GoesN.zip2 (elts := elts) (x1 := kk) (pos := tpos) S D1 D2
    have ei : i = min its.toArray.size its2.toArray.size := by rw [List.size_toArray, List.size_toArray, ← l1, ← l2]; exact he
    obtain ⟨hz, hTI, hTO, h1, h2⟩ := st
    refine W.stops s _ E (by rw [← ei]; exact ⟨hz, hTI, hTO, ⟨h1, p⟩, h2, p2⟩) fun h' tk hk htk => ?_
    exact I.turnedL (t' := tk) (ch := [N + 4, N + 2, N + 3, N, N + 1]) (fun c o hb q => hk c o (fun z => hb (by
        simp only [List.mem_cons, List.not_mem_nil, or_false] at z ⊢
        rcases z with z | z | z | z
        · exact .inl z
        · exact .inr (.inr (.inl z))
        · exact .inr (.inr (.inr (.inl z)))
        · exact .inr (.inr (.inr (.inr z))))) q) hf
  self := fun A i s Q E st h => wpAny_pyIter_zip st.1 h
theorem begK (b : Bool) (a : Addr) (its : Array Value) : ∃ o : Obj, Begins (.ref a) o (fun h => IsK b h a its) ∧ ∀ (h : Heap) (it : Addr), h.get? it = some o → ItK b h it a 0 := by
  cases b with
  | false => exact ⟨_, begins_list a its, fun h it e => ⟨_, e, rfl, rfl⟩⟩
  | true => exact ⟨_, begins_tuple a its, fun h it e => ⟨_, e, rfl, rfl⟩⟩
def iZipM (K : PySem.W.Frag) (ta : TA) : TI := fun σ H R => ta σ H fun vs H1 => ∃ (a b : Addr) (c d : Bool) (xs ys : List V), vs = [.ref a, .ref b] ∧ SqK K c H1 a xs ∧ SqK K d H1 b ys ∧ R (ItzM K c d a b) H1
theorem pi_zipM {e e2 : Expr} {ta : TA} {p pos tpos : Pos} {elts : List Expr} {kk : Nat} (hg : Gl X "zip") (hm : X.mg "zip" = none) (ha : PA X [e, e2] ta)
    (hs : starEach [e, e2] X.env = (false, eval e X.env) :: starEach [e2] X.env := by rfl) (hpl : (backTo pos (starEach [e2] X.env)).any (·.1) = false := by rfl) :
    PI X (.Tuple elts kk tpos) (.Call (.Name "zip" p) [e, e2] [] pos) (iZipM X.K ta) := by
  refine ⟨fun pins s σ H R I h => ?_⟩
  refine Call_ (ld_blt I hg hm PyProof.Rows.boot_zip (PyProof.Rows.callWith_type1 (thn (ha.run pos pins s σ H _ I h) fun us s1 ⟨vs, H1, I1, r1, q1⟩ => ?_) hs hpl))
  obtain ⟨a, b, c, d, xs, ys, ex, hx, hy, q⟩ := q1
  subst ex
  cases r1 with
  | cons r rr =>
    cases rr with
    | cons r' rr =>
      cases rr
      cases r
      cases r'
      obtain ⟨its, rv, p1⟩ := Inv.sqK I1 hx
      obtain ⟨its2, rv2, p2⟩ := Inv.sqK I1 hy
      obtain ⟨o1, B1, f1⟩ := begK c a its.toArray
      obtain ⟨o2, B2, f2⟩ := begK d b its2.toArray
      refine zip_begins2 B1 B2 p1 p2 fun h' hz hTI hTO h1 h2 hsz hk => wpAny_pyIter_zip hz ?_
      have I2 : L2.Inv X pins σ H1 { s1 with heap := h' } := I1.kept (t' := s1.toks) hk
      refine ⟨s1.heap.objs.size + 4, [s1.heap.objs.size + 4, s1.heap.objs.size + 2, s1.heap.objs.size + 3, s1.heap.objs.size, s1.heap.objs.size + 1], _, _, H1, rfl, I2, turn_zipM (isK_lt p1) (isK_lt p2), ⟨hz, hTI, ⟨_, _, hTO⟩, f1 _ _ h1, f2 _ _ h2⟩, fun e he => ?_, q⟩
      have hle : s1.heap.objs.size ≤ e := by
        simp only [List.mem_cons, List.not_mem_nil, or_false] at he
        rcases he with z | z | z | z | z
        · rw [z]; exact Nat.le_add_right _ _
        · rw [z]; exact Nat.le_add_right _ _
        · rw [z]; exact Nat.le_add_right _ _
        · rw [z]; exact Nat.le_refl _
        · rw [z]; exact Nat.le_add_right _ _
      exact I1.fpOk hle (I1.hok.fresh hle)
end
theorem for_zipM {K : PySem.W.Frag} {c d : Bool} {a b : Addr} {xs ys : List V} {g : TG} {tb : TS} {D : Ends} {σ : L2.St} {H : Hp} (hl : xs.length = ys.length) (Pv : Nat → L2.St → Hp → Prop) (h0 : Pv 0 σ H) (hq : ∀ i σ H, Pv i σ H → SqK K c H a xs ∧ SqK K d H b ys)
    (hs : ∀ (i : Nat) (x y : V) (T : Addr) (σ : L2.St) (H : Hp), xs[i]? = some x → ys[i]? = some y → Pv i σ H → H T = none → g (.ref T) σ (upd H T (.tup [x, y])) fun σ2 H2 => tb { D with nx := Pv (i + 1), ct := Pv (i + 1), bk := D.nx } σ2 H2) (hd : ∀ σ H, Pv xs.length σ H → D.nx σ H) :
    ∃ W : Nat → Nat → L2.St → Hp → Prop, (∃ m, W 0 m σ H) ∧ ∀ i m σ H, W i m σ H →
      ((ItzM K c d a b).stop i H ∧ D.nx σ H) ∨ ((ItzM K c d a b).go i H ∧ ∃ N : L2.St → Hp → Prop, (∀ σ' H', N σ' H' → ∃ m', m' < m ∧ W (i + 1) m' σ' H') ∧ ∀ v H', (ItzM K c d a b).yld i H v H' → g v σ H' fun σ2 H2 => tb { D with nx := N, ct := N, bk := D.nx } σ2 H2) := by
  refine ⟨fun i m σ H => m = xs.length - i ∧ i ≤ xs.length ∧ Pv i σ H, ⟨xs.length, rfl, Nat.zero_le _, h0⟩, ?_⟩
  rintro i m σ H ⟨rfl, hi, p⟩
  obtain ⟨qx, qy⟩ := hq i σ H p
  by_cases hlt : i < xs.length
  · refine .inr ⟨⟨xs, ys, qx, qy, hlt, by omega⟩, Pv (i + 1), fun σ' H' p' => ⟨xs.length - (i + 1), by omega, rfl, hlt, p'⟩, fun v H' y => ?_⟩
    obtain ⟨T, x', y', rfl, hT, rfl, f1, f2⟩ := y
    exact hs i x' y' T σ H (f1 xs qx) (f2 ys qy) p hT
  · have e : i = xs.length := by omega
    subst e
    exact .inl ⟨⟨xs, ys, qx, qy, by omega⟩, hd σ H p⟩
end Lb

set_option Elab.async false
set_option linter.all false
set_option maxRecDepth 100000
set_option maxHeartbeats 4000000
namespace Lb
open PySem PySem.Spec PyProof.Rows L2

theorem Paired.getL {α β : Type} {R : α → β → Prop} : ∀ {l : List α} {m : List β} {j : Nat} {x : α}, Paired R l m → l[j]? = some x → ∃ y, m[j]? = some y ∧ R x y
  | _, _, 0, _, .cons r _, e => ⟨_, rfl, by cases e; exact r⟩
  | _, _, j + 1, _, .cons _ t, e => Paired.getL (j := j) t (by simpa using e)
theorem Go.put {T : Addr → Prop} {l : Addr} {H0 H : Hp} {o : HO} (g : Go T H0 H) (n : H0 l = none) (t : Tabs H0 T) : Go T H0 (upd H l o) := by
  have lT := tab_ne t n
  refine ⟨?_, fun b u n1 e => by rw [upd_ne (ne_of_none e n)]; exact g.2 b u n1 e⟩
  exact g.1.put lT
theorem Go.lst {T : Addr → Prop} {a : Addr} {H H' : Hp} {xs : List V} (g : Go T H H') (t : Tabs H T) (e : H a = some (.lst xs)) : H' a = some (.lst xs) := g.2 a _ (ne_tab t e fun _ z => by cases z) e
theorem PairsAt.go {T : Addr → Prop} {H H' : Hp} {ts : List Addr} {ps : List (Nat × Nat)} (h : PairsAt H ts ps) (t : Tabs H T) (g : Go T H H') : PairsAt H' ts ps := h.keep fun b xs e => g.2 b _ (ne_tab t e fun _ z => by cases z) e
theorem SeqLT.sqB {K : PySem.W.Frag} {H : Hp} {a : Addr} {xs : List V} (h : SeqLT K H a xs) : ∃ b, SqB K b H a xs := by
  rcases h with h | h
  · exact ⟨false, h⟩
  · exact ⟨true, h⟩

theorem zip_at {α β : Type} {a b : List α} {i : Nat} {x y : α} : a[i]? = some x → b[i]? = some y → (List.zip a b)[i]? = some (x, y) := fun h1 h2 => by
  rw [List.getElem?_zip_eq_some]
  exact ⟨h1, h2⟩
theorem vl_inv {l : List Nat} {i : Nat} {v : V} (h : (vl l)[i]? = some v) : ∃ k, l[i]? = some k ∧ v = .int (k : Int) := by
  have hi : i < l.length := by
    have z := (List.getElem?_eq_some_iff.mp h).1
    rw [vl_len] at z
    exact z
  exact ⟨l.getD i 0, getD_of hi, Option.some.inj (h.symm.trans (vl_get (getD_of hi)))⟩
theorem vl_cons (k : Nat) (l : List Nat) : vl (k :: l) = V.int (k : Int) :: vl l := rfl
theorem vl_app (a b : List Nat) : vl a ++ vl b = vl (a ++ b) := by
  unfold vl
  rw [List.map_append, List.map_append]

theorem PairsAt.up {H : Hp} {ts : List Addr} {ps : List (Nat × Nat)} {D : Addr} {xs : List V} {u : HO} (h : PairsAt H ts ps) (e : H D = some (.lst xs)) : PairsAt (upd H D u) ts ps := h.keep fun b ys z => by
  rw [upd_ne (ne_of z e fun q => by cases q)]
  exact z
theorem PairsAt.new {H : Hp} {ts : List Addr} {ps : List (Nat × Nat)} {D : Addr} {u : HO} (h : PairsAt H ts ps) (e : H D = none) : PairsAt (upd H D u) ts ps := h.keep fun b ys z => by
  rw [upd_ne (ne_of_none z e)]
  exact z
/-- for over a list or a tuple -/
theorem for_seq {K : PySem.W.Frag} {b : Bool} {a : Addr} {xs : List V} {g : TG} {tb : TS} {D : Ends} {σ : L2.St} {H : Hp} (Pv : Nat → L2.St → Hp → Prop) (h0 : Pv 0 σ H) (hl : ∀ i σ H, i ≤ xs.length → Pv i σ H → SqB K b H a xs)
    (hs : ∀ i x σ H, xs[i]? = some x → Pv i σ H → g x σ H fun σ2 H2 => tb { D with nx := Pv (i + 1), ct := Pv (i + 1), bk := D.nx } σ2 H2) (hd : ∀ σ H, Pv xs.length σ H → D.nx σ H) :
    ∃ W : Nat → Nat → L2.St → Hp → Prop, (∃ m, W 0 m σ H) ∧ ∀ i m σ H, W i m σ H →
      ((ItB K b a).stop i H ∧ D.nx σ H) ∨ ((ItB K b a).go i H ∧ ∃ N : L2.St → Hp → Prop, (∀ σ' H', N σ' H' → ∃ m', m' < m ∧ W (i + 1) m' σ' H') ∧ ∀ x H', (ItB K b a).yld i H x H' → g x σ H' fun σ2 H2 => tb { D with nx := N, ct := N, bk := D.nx } σ2 H2) := by
  cases b with
  | false => exact for_list Pv h0 hl hs hd
  | true => exact for_tup Pv h0 hl hs hd
theorem none_ne {H : Hp} {a b : Addr} {u : HO} (n : H a = none) (e : H b = some u) : a ≠ b := fun z => by
  rw [z, e] at n
  cases n
abbrev s_corner_table : Stmt := topS 20
abbrev s_all_corners : Stmt := topS 22
abbrev s_over : Stmt := topS 23
abbrev s_is_below : Stmt := topS 26
theorem sc_corner_table : FnScope ["order", "row", "table", "thing", "at", "count"] ["order"] (defScope s_corner_table) := ⟨rfl, rfl, rfl, by decide +kernel, rfl, by decide +kernel, by decide +kernel⟩
theorem sc_all_corners : FnScope ["size", "m", "k"] ["size"] (defScope s_all_corners) := ⟨rfl, rfl, rfl, by decide +kernel, rfl, by decide +kernel, by decide +kernel⟩
theorem sc_over : FnScope ["order", "other", "here", "there", "m", "k"] ["order", "other"] (defScope s_over) := ⟨rfl, rfl, rfl, by decide +kernel, rfl, by decide +kernel, by decide +kernel⟩
theorem sc_is_below : FnScope ["order", "other"] ["order", "other"] (defScope s_is_below) := ⟨rfl, rfl, rfl, by decide +kernel, rfl, by decide +kernel, by decide +kernel⟩

/-! ### corners -/
/-- how many of the first m places have a thing of k or more -/
def cc (o : List Nat) (m k : Nat) : Nat := ((o.take m).filter fun t => decide (k ≤ t)).length
def crow (o : List Nat) (m : Nat) : List Nat := (List.range o.length).map fun k => cc o m (k + 1)
theorem len_crow (o : List Nat) (m : Nat) : (crow o m).length = o.length := by
  unfold crow
  rw [List.length_map, List.length_range]
theorem cc_le (o : List Nat) (m k : Nat) : cc o m k ≤ o.length := Nat.le_trans (List.length_filter_le _ _) (by rw [List.length_take]; omega)
theorem cc_step {o : List Nat} {i t : Nat} (h : o[i]? = some t) (k : Nat) : cc o (i + 1) k = cc o i k + (if k ≤ t then 1 else 0) := by
  unfold cc
  rw [take_snoc h, List.filter_append, List.length_append]
  congr 1
  rw [List.filter_cons, List.filter_nil]
  by_cases e : k ≤ t
  · rw [if_pos (decide_eq_true e), if_pos e]
    rfl
  · rw [if_neg (by rw [decide_eq_false e]; exact Bool.false_ne_true), if_neg e]
    rfl
theorem crow_zero (o : List Nat) : crow o 0 = List.replicate o.length 0 := by
  unfold crow
  rw [List.eq_replicate_iff]
  refine ⟨by rw [List.length_map, List.length_range], fun b hb => ?_⟩
  obtain ⟨k, _, rfl⟩ := List.mem_map.mp hb
  rfl
theorem crow_at {o : List Nat} {m k : Nat} (h : k < o.length) : (crow o m)[k]? = some (cc o m (k + 1)) := by
  unfold crow
  rw [List.getElem?_map, List.getElem?_range h]
  rfl
theorem vl_zero : ∀ n : Nat, (List.replicate n [V.int 0]).flatten = vl (List.replicate n 0)
  | 0 => rfl
  | n + 1 => by
    rw [List.replicate_succ, List.replicate_succ, List.flatten_cons, vl_zero n]
    rfl
def ctab (o : List Nat) : List (List Nat) := (List.range o.length).map fun a => crow o (a + 1)
/-- rows of whole numbers, each a list -/
def RowsAt (H : Hp) (ts : List Addr) (rs : List (List Nat)) : Prop := Paired (fun t r => H t = some (.lst (vl r))) ts rs
theorem RowsAt.go {T : Addr → Prop} {H H' : Hp} {ts : List Addr} {rs : List (List Nat)} (h : RowsAt H ts rs) (t : Tabs H T) (g : Go T H H') : RowsAt H' ts rs := Paired.mapP h fun _ _ e => g.lst t e
theorem RowsAt.new {H : Hp} {ts : List Addr} {rs : List (List Nat)} {D : Addr} {u : HO} (h : RowsAt H ts rs) (e : H D = none) : RowsAt (upd H D u) ts rs := Paired.mapP h fun _ _ z => by
  rw [upd_ne (ne_of_none z e)]
  exact z
theorem RowsAt.off {H : Hp} {g : Addr} {u : HO} : ∀ {ts : List Addr} {rs : List (List Nat)}, RowsAt H ts rs → (∀ t ∈ ts, t ≠ g) → RowsAt (upd H g u) ts rs
  | _, _, .nil, _ => .nil
  | _, _, .cons r t, h => .cons (by rw [upd_ne (h _ (.head _))]; exact r) (RowsAt.off t fun x hx => h x (.tail _ hx))
section
variable {P : Program} {w : World} {K : PySem.W.Frag} {mg : Str → Option Value} {base : Heap} {T : Addr → Prop} {c fO fI : Addr} {fdO fdI : FuncData}
def spTab (K : PySem.W.Frag) (T : Addr → Prop) : Sp := fun vs H Q _ => ∃ (a : Addr) (o : List Nat), vs = [.ref a] ∧ SeqLT K H a (vl o) ∧ IsOrd o ∧ Tabs H T ∧ ∀ H' p ts, Go T H H' → H p = none → H' p = some (.lst (ts.map V.ref)) → RowsAt H' ts (ctab o) → (∀ t ∈ ts, H t = none) → Q (.ref p) H'
theorem ok_corner_table {f fC : Addr} {fd fdC : FuncData} (F : Fun K "corner_table" "corner_table" s_corner_table f fd) (C : Cd K mg fC fdC) (O : Io K mg base T c fO fI fdO fdI) (me : mg "enumerate" = none) : FnOk P w K mg base CX0 4 f fd ["order"] (spTab K T) := by
  have G : FnOk P w K mg base CX0 3 fC fdC ["order"] (spChk K T) := ok_check_order C.fn O
  refine F.ok sc_corner_table (fun vs H Q E h => ?_) (fun cdv A outer s H vs Q E hr h => ?_)
  · obtain ⟨a, o, rfl, _⟩ := h
    rfl
  · obtain ⟨a, o, rfl, ha, ho, ht, q⟩ := h
    have b9 := ho.hi
    refine ⟨_, pss_cons (ps_expr (pe_call G hr (by rfl) C.at_ C.fn.kp C.bind .nil pass0 (pa_cons (pv 0) pa_nil)))
      (pss_cons (ps_set (i := 1) sc_corner_table.nd rfl (Or.inl rfl) (pe_op op_rep (pe_lst (pa_cons pe_int pa_nil)) (pe_callB call_len (by rfl) O.B.len PySem.boot_len (pa_cons (pv 0) pa_nil))))
      (pss_cons (ps_set (i := 2) sc_corner_table.nd rfl (Or.inl rfl) (pe_lst pa_nil))
      (pss_cons (ps_for PassesOwn.never rfl (pi_seq (pv 0)) (pg_name (i := 3) sc_corner_table.nd rfl (.inr rfl))
        (pss_cons (ps_setLc (i := 1) (own := [("at", 4), ("count", 5)]) (tt := tYes) (by rfl) sc_corner_table.nd rfl rfl (by rfl) (pi_enum (by rfl) me (pa_cons (pv 1) pa_nil)) (blkOk_by (by rfl))
            (fun _ _ _ _ _ => (show PG _ _ (gTup K 2 (gCons (gName 4) (gCons (gName 5) gNil))) from pg_tup rfl (pgs_cons (pg_name (i := 4) sc_corner_table.nd rfl (Or.inl rfl)) (pgs_cons (pg_name (i := 5) sc_corner_table.nd rfl (Or.inl rfl)) pgs_nil)))) (fun _ _ _ _ _ => pts_nil)
            (fun _ _ _ _ _ => pe_ifExp (pt_cmpR op_gt (pv 3) (pv 4) (nomark _)) (pe_op op_add (pv 5) pe_int) (pv 5)))
        (pss_one (ps_expr (pe_bm PySem.F.plainAttrs_list PySem.F.slot_list_append PySem.F.type_list_append mt_append (pv 2) (pa_cons (pv 1) pa_nil))))))
      (pss_one (ps_ret (pv 2)))))), ?_⟩
    refine ⟨.ref a, rfl, a, o, rfl, ha, ho, ht, fun H1 g1 => ?_⟩
    refine ⟨by show 1 ≤ sizeLine; decide, fun z hz => ?_⟩
    have g2 := g1.trans (Go.new (o := .lst [V.int 0]) g1.1 hz)
    have l1 := lenV_seq (K := K) (g2.lt ht ha)
    rw [vl_len] at l1
    refine ⟨.ref a, rfl, .ref a, _, rfl, l1, z, (o.length : Int), [V.int 0], rfl, rfl, upd_same, by omega, by omega, Nat.le_of_lt (small9 (by show 1 * _ ≤ 100; omega)), fun r0 hr0 => ?_⟩
    rw [show ((o.length : Int)).toNat = o.length by omega, vl_zero, ← crow_zero]
    have g3 := g2.trans (Go.new (o := .lst (vl (crow o 0))) g2.1 hr0)
    have er0 : (upd (upd H1 z (.lst [V.int 0])) r0 (.lst (vl (crow o 0)))) r0 = some (.lst (vl (crow o 0))) := upd_same
    generalize upd (upd H1 z (.lst [V.int 0])) r0 (.lst (vl (crow o 0))) = S3 at g3 er0 ⊢
    refine ⟨Nat.zero_le _, fun g hg => ?_⟩
    have g4 := g3.trans (Go.new (o := .lst []) g3.1 hg)
    have er4 : (upd S3 g (.lst [])) r0 = some (.lst (vl (crow o 0))) := by rw [upd_ne (ne_of_none er0 hg)]; exact er0
    have hg0 := g3.free hg
    obtain ⟨bb, sq0⟩ := ha.sqB
    refine ⟨.ref a, rfl, bb, a, rfl, ⟨_, g4.sqB ht sq0⟩, ?_⟩
    have eg4 : (upd S3 g (.lst [])) g = some (.lst []) := upd_same
    generalize upd S3 g (.lst []) = S4 at g4 er4 eg4 ⊢
    have lct : (ctab o).length = o.length := by
      unfold ctab
      rw [List.length_map, List.length_range]
    refine for_seq (xs := vl o) (fun i σ H2 => ∃ (rv : Addr) (tv : Option V) (ts : List Addr), σ = [some (.ref a), some (.ref rv), some (.ref g), tv, none, none] ∧ Go T H H2 ∧ rv ≠ g ∧ H2 rv = some (.lst (vl (crow o i))) ∧ H2 g = some (.lst (ts.map V.ref)) ∧ (∀ t ∈ ts, t ≠ g ∧ H t = none) ∧ RowsAt H2 ts ((ctab o).take i))
      ⟨r0, none, [], rfl, g4, ne_of_none er0 hg, er4, eg4, fun _ h => (nomatch h), .nil⟩ (fun i σ H2 _ ⟨_, _, _, _, g5, _⟩ => g5.sqB ht sq0) ?_ ?_
    · rintro i x σ H2 hx ⟨rv, tv, ts, rfl, g5, nrg, er, eg, ntg, rows⟩
      obtain ⟨t, hti, rfl⟩ := vl_inv hx
      have hi := (List.getElem?_eq_some_iff.mp hti).1
      refine ⟨.ref rv, rfl, rv, _, rfl, SqL.of er, fun D hD => ?_⟩
      refine lc_it (walk_enum (xs := vl (crow o i))) (fun j H3 => Made T H2 D ((crow o (i + 1)).take j) H3) (Made.start g5.1 hD) (fun j H3 _ m => SqL.of ((m.go hD).lst g5.1 er)) (fun j v H3 H4 hj m y => ?_) (fun H3 m => ?_)
      · obtain ⟨tt, x1, y1, rfl, htt, rfl, hx1, hy1⟩ := y
        cases (Option.some.inj hx1)
        obtain ⟨n, hn, rfl⟩ := vl_inv hy1
        have hj2 : j < o.length := by
          rw [vl_len, len_crow] at hj
          exact hj
        have en : n = cc o i (j + 1) := Option.some.inj (hn.symm.trans (crow_at hj2))
        subst en
        have gd := (m.go hD).trans (Go.new (o := .tup [V.int (j : Nat), V.int ((cc o i (j + 1) : Nat) : Int)]) m.1 htt)
        have more := m.more (k := cc o (i + 1) (j + 1)) hD g5.1 (Go.new (o := .tup [V.int (j : Nat), V.int ((cc o i (j + 1) : Nat) : Int)]) m.1 htt)
        have cl := cc_le o i (j + 1)
        have st := cc_step hti (j + 1)
        refine ⟨tt, _, rfl, SqT.of upd_same, rfl, _, _, rfl, _, _, rfl, rfl, rfl, .int (t : Int), rfl, .int (j : Nat), rfl, _, _, rfl, rfl, _, rfl, ?_⟩
        have fin : ∀ v : V, v = V.int ((cc o (i + 1) (j + 1) : Nat) : Int) → ∃ acc, (upd H3 tt (.tup [V.int (j : Nat), V.int ((cc o i (j + 1) : Nat) : Int)])) D = some (.lst acc) ∧ acc.length < sizeLine ∧ Made T H2 D ((crow o (i + 1)).take (j + 1)) (upd (upd H3 tt (.tup [V.int (j : Nat), V.int ((cc o i (j + 1) : Nat) : Int)])) D (.lst (acc ++ [v]))) := by
          rintro v rfl
          refine ⟨_, more.1, by rw [vl_len, List.length_take, len_crow]; exact small9 (by omega), ?_⟩
          rw [take_snoc (crow_at hj2)]
          exact more.2
        by_cases hlt : j < t
        · rw [decide_eq_true (show ((j : Nat) : Int) < (t : Int) by omega)]
          refine iteT ⟨.int ((cc o i (j + 1) : Nat) : Int), rfl, _, _, rfl, rfl, fin _ ?_⟩
          rw [st, if_pos (by omega)]
          rfl
        · rw [decide_eq_false (show ¬ ((j : Nat) : Int) < (t : Int) by omega)]
          refine iteF ⟨.int ((cc o i (j + 1) : Nat) : Int), rfl, fin _ ?_⟩
          rw [st, if_neg (by omega)]
          rfl
      · have g6 := g5.trans (m.go hD)
        have eD : H3 D = some (.lst (vl (crow o (i + 1)))) := by
          have e := m.2.2
          rw [vl_len, len_crow, List.take_of_length_le (by rw [len_crow]; exact Nat.le_refl _)] at e
          exact e
        have eg3 := (m.go hD).lst g5.1 eg
        have lts := Paired.length rows
        rw [List.length_take, lct] at lts
        refine ⟨.ref g, rfl, .inl ⟨rfl, _, SqL.of eg3⟩, .ref D, rfl, g, _, _, rfl, rfl, eg3, by rw [List.length_map]; exact small9 (by omega), ?_⟩
        have nDg : D ≠ g := none_ne hD eg
        refine ⟨D, some (.int (t : Int)), ts ++ [D], rfl, g6.put hg0 ht, nDg, by rw [upd_ne nDg]; exact eD, by rw [upd_same, List.map_append]; rfl, fun x hx => ?_, ?_⟩
        · rcases List.mem_append.mp hx with hx | hx
          · exact ntg x hx
          · cases List.mem_singleton.mp hx
            exact ⟨nDg, g5.free hD⟩
        · have at_ : (ctab o)[i]? = some (crow o (i + 1)) := by
            unfold ctab
            rw [List.getElem?_map, List.getElem?_range hi]
            rfl
          rw [take_snoc at_]
          have r3 := rows.go g5.1 (m.go hD)
          refine Paired.snoc ?_ (by rw [upd_ne nDg]; exact eD)
          exact r3.off fun t ht => (ntg t ht).1
    · rintro σ H2 ⟨rv, tv, ts, rfl, g5, nrg, er, eg, ntg, rows⟩
      rw [vl_len, List.take_of_length_le (by rw [lct]; exact Nat.le_refl _)] at rows
      exact ⟨.ref g, rfl, q H2 g ts g5 hg0 eg rows fun t ht => (ntg t ht).2⟩
end
end Lb

set_option Elab.async false
set_option linter.all false
set_option maxRecDepth 100000
set_option maxHeartbeats 4000000
namespace Lb
open PySem PySem.Spec PyProof.Rows L2

/-- all corners of n things, place by place -/
def acTo (n i j : Nat) : List (Nat × Nat) := ((List.range i).flatMap fun a => (List.range n).map fun b => (a + 1, b + 1)) ++ (List.range j).map fun b => (i + 1, b + 1)
def acs (n : Nat) : List (Nat × Nat) := (List.range n).flatMap fun a => (List.range n).map fun b => (a + 1, b + 1)
theorem acTo_more (n i j : Nat) : acTo n i (j + 1) = acTo n i j ++ [(i + 1, j + 1)] := by
  unfold acTo
  rw [List.range_succ (n := j), List.map_append, List.append_assoc]
  rfl
theorem acTo_next (n i : Nat) : acTo n (i + 1) 0 = acTo n i n := by
  unfold acTo
  rw [List.range_succ, List.flatMap_append, List.flatMap_cons, List.flatMap_nil, List.append_nil, List.range_zero, List.map_nil, List.append_nil]
theorem acTo_end (n : Nat) : acTo n n 0 = acs n := by
  unfold acTo acs
  rw [List.range_zero, List.map_nil, List.append_nil]
theorem acTo_le {n i j : Nat} (hn : n ≤ 9) (hi : i ≤ 9) (hj : j ≤ 9) : (acTo n i j).length ≤ 90 := by
  unfold acTo
  rw [List.length_append, List.length_map, List.length_range]
  have h1 := flat_le (f := fun a => (List.range n).map fun b => (a + 1, b + 1)) (c := 9) (fun a => by rw [List.length_map, List.length_range]; omega) (List.range i)
  rw [List.length_range] at h1
  omega
theorem acs_mem {n : Nat} {q : Nat × Nat} (h : q ∈ acs n) : 1 ≤ q.1 ∧ q.1 ≤ n ∧ 1 ≤ q.2 ∧ q.2 ≤ n := by
  unfold acs at h
  obtain ⟨a, ha, hq⟩ := List.mem_flatMap.mp h
  obtain ⟨b, hb, rfl⟩ := List.mem_map.mp hq
  have h1 := List.mem_range.mp ha
  have h2 := List.mem_range.mp hb
  exact ⟨by show 1 ≤ a + 1; omega, by show a + 1 ≤ n; omega, by show 1 ≤ b + 1; omega, by show b + 1 ≤ n; omega⟩
def more (o p : List Nat) (q : Nat × Nat) : Bool := decide (cc o q.1 q.2 > cc p q.1 q.2)
def fstOver (o p : List Nat) : Option (Nat × Nat) := (acs o.length).find? (more o p)
theorem rows_at {H : Hp} {ts : List Addr} {o : List Nat} (h : RowsAt H ts (ctab o)) {m : Nat} (hm : m < o.length) : ∃ t, ts[m]? = some t ∧ H t = some (.lst (vl (crow o (m + 1)))) := by
  have l := Paired.length h
  have lct : (ctab o).length = o.length := by
    unfold ctab
    rw [List.length_map, List.length_range]
  have hm2 : m < ts.length := by omega
  obtain ⟨r, hr, e⟩ := Paired.getL h (List.getElem?_eq_getElem hm2)
  refine ⟨ts[m], List.getElem?_eq_getElem hm2, ?_⟩
  have : (ctab o)[m]? = some (crow o (m + 1)) := by
    unfold ctab
    rw [List.getElem?_map, List.getElem?_range hm]
    rfl
  rw [this] at hr
  cases hr
  exact e

section
variable {P : Program} {w : World} {K : PySem.W.Frag} {mg : Str → Option Value} {base : Heap} {T : Addr → Prop} {c fO fI : Addr} {fdO fdI : FuncData}
def spAcs (T : Addr → Prop) : Sp := fun vs H Q _ => ∃ n : Nat, vs = [.int (n : Int)] ∧ n ≤ 9 ∧ Tabs H T ∧ ∀ H' p ts, Go T H H' → H p = none → H' p = some (.lst (ts.map V.ref)) → PairsAt H' ts (acs n) → Q (.ref p) H'
theorem ok_all_corners {f : Addr} {fd : FuncData} (F : Fun K "all_corners" "all_corners" s_all_corners f fd) (B : Bl mg) : FnOk P w K mg base CX0 1 f fd ["size"] (spAcs T) := by
  refine F.ok sc_all_corners (fun vs H Q E h => ?_) (fun cdv A outer s H vs Q E hr h => ?_)
  · obtain ⟨n, rfl, _⟩ := h
    rfl
  · obtain ⟨n, rfl, n9, ht, q⟩ := h
    refine ⟨_, pss_one (ps_ret (pe_lc2 (own := [("m", 1), ("k", 2)]) (vs1 := [2]) (g := gName 1) (g1 := gName 2) (tt := tYes) (by rfl) sc_all_corners.nd (pi_range2 (by rfl) B.range (pa_cons pe_int (pa_cons (pe_op op_add (pv 0) pe_int) pa_nil)))
        (blkOk_by (by rfl)) (by decide) (fun _ _ _ _ _ => pg_name (i := 1) sc_all_corners.nd rfl (Or.inl rfl)) (fun _ _ _ _ _ => pts_nil)
        (fun _ _ _ _ _ => pi_range2 (by rfl) B.range (pa_cons pe_int (pa_cons (pe_op op_add (pv 0) pe_int) pa_nil))) (fun _ _ _ _ _ => pg_name (i := 2) sc_all_corners.nd rfl (Or.inl rfl)) (fun _ _ _ _ _ => pts_nil)
        (fun _ _ _ _ _ => pe_tup (pa_cons (pv 1) (pa_cons (pv 2) pa_nil))))), ?_⟩
    refine ⟨.int (n : Int), rfl, _, 1, rfl, rfl, _, _, rfl, ⟨by omega, by omega, by omega, by omega⟩, fun D hD => ?_⟩
    refine ⟨fun i m H2 => m = n - i ∧ i ≤ n ∧ PMade T H D (acTo n i 0) H2, ⟨_, rfl, Nat.zero_le _, ?_⟩, ?_⟩
    · exact ⟨(Go.new (o := .lst []) ht hD).1, fun b u _ e => by rw [upd_ne (ne_of_none e hD)]; exact e, [], upd_same, .nil⟩
    · rintro i m H2 ⟨rfl, hi, pm⟩
      by_cases hlt : i < n
      · refine .inr ⟨by show i < ((n : Int) + 1 - 1).toNat; omega, fun H3 => PMade T H D (acTo n (i + 1) 0) H3, fun H' p' => ⟨_, by omega, rfl, hlt, p'⟩, ?_⟩
        rintro x H' ⟨rfl, rfl⟩
        refine ⟨rfl, .int (n : Int), rfl, _, 1, rfl, rfl, _, _, rfl, ⟨by omega, by omega, by omega, by omega⟩, ?_⟩
        refine ⟨fun j k H3 => k = n - j ∧ j ≤ n ∧ PMade T H D (acTo n i j) H3, ⟨_, rfl, Nat.zero_le _, pm⟩, ?_⟩
        rintro j k H3 ⟨rfl, hj, pm3⟩
        by_cases hjt : j < n
        · refine .inr ⟨by show j < ((n : Int) + 1 - 1).toNat; omega, fun H4 => PMade T H D (acTo n i (j + 1)) H4, fun H' p' => ⟨_, by omega, rfl, hjt, p'⟩, ?_⟩
          rintro x H' ⟨rfl, rfl⟩
          refine ⟨rfl, .int (1 + (i : Int)), rfl, .int (1 + (j : Int)), rfl, by show 2 ≤ sizeLine; decide, fun t hn => ?_⟩
          obtain ⟨ts, e1, e2⟩ := pm3.new
          have nDt : D ≠ t := ne_of_none e1 hn
          have nTt : ¬ T t := tab_ne pm3.tab hn
          have nTD : ¬ T D := tab_ne ht hD
          refine ⟨ts.map V.ref, by rw [upd_ne nDt]; exact e1, ?_, ?_, ?_, ts ++ [t], ?_, ?_⟩
          · rw [List.length_map, Paired.length e2]
            exact small9 (Nat.le_trans (acTo_le n9 (by omega) (by omega)) (by omega))
          · exact (pm3.tab.put nTt).put nTD
          · intro b u n e
            rw [upd_ne (ne_of_none e hD), upd_ne (ne_of_none (pm3.old b u n e) hn)]
            exact pm3.old b u n e
          · rw [upd_same, List.map_append]
            rfl
          · rw [acTo_more]
            refine Paired.snoc (e2.keep fun b xs e => ?_) ?_
            · rw [upd_ne (ne_of e e1 (by intro z; cases z)), upd_ne (ne_of_none e hn)]
              exact e
            · show upd _ D _ t = some (.tup [V.int ((i + 1 : Nat) : Int), V.int ((j + 1 : Nat) : Int)])
              rw [upd_ne nDt.symm, upd_same, show (1 + (i : Int)) = ((i + 1 : Nat) : Int) by omega, show (1 + (j : Int)) = ((j + 1 : Nat) : Int) by omega]
        · refine .inl ⟨by show ((n : Int) + 1 - 1).toNat ≤ j; omega, ?_⟩
          show PMade T H D (acTo n (i + 1) 0) H3
          rw [acTo_next, show n = j by omega]
          rw [show n = j by omega] at pm3
          exact pm3
      · refine .inl ⟨by show ((n : Int) + 1 - 1).toNat ≤ i; omega, ?_⟩
        have e : i = n := by omega
        rw [e, acTo_end] at pm
        obtain ⟨ts, e1, e2⟩ := pm.new
        exact q H2 D ts ⟨pm.tab, pm.old⟩ hD e1 e2

def Ch (K : PySem.W.Frag) (mg : Str → Option Value) (f : Addr) (fd : FuncData) : Prop := Df K mg "check_orders" s_check_orders ["order", "other"] f fd
def Ct (K : PySem.W.Frag) (mg : Str → Option Value) (f : Addr) (fd : FuncData) : Prop := Df K mg "corner_table" s_corner_table ["order"] f fd
def Ac (K : PySem.W.Frag) (mg : Str → Option Value) (f : Addr) (fd : FuncData) : Prop := Df K mg "all_corners" s_all_corners ["size"] f fd
def spOver (K : PySem.W.Frag) (T : Addr → Prop) : Sp := fun vs H Q _ => ∃ (a d : Addr) (o p : List Nat), vs = [.ref a, .ref d] ∧ SeqLT K H a (vl o) ∧ SeqLT K H d (vl p) ∧ IsOrd o ∧ IsOrd p ∧ o.length = p.length ∧ Tabs H T ∧
  (∀ H', Go T H H' → fstOver o p = none → Q .non H') ∧ ∀ H' t (m k : Nat), Go T H H' → H t = none → H' t = some (.tup [V.int (m : Int), V.int (k : Int)]) → fstOver o p = some (m, k) → Q (.ref t) H'
theorem ok_over {f fH fT fA fC : Addr} {fd fdH fdT fdA fdC : FuncData} (F : Fun K "over" "over" s_over f fd) (Hh : Ch K mg fH fdH) (Tt : Ct K mg fT fdT) (Aa : Ac K mg fA fdA) (C : Cd K mg fC fdC) (O : Io K mg base T c fO fI fdO fdI) (me : mg "enumerate" = none) : FnOk P w K mg base CX0 5 f fd ["order", "other"] (spOver K T) := by
  have G1 : FnOk P w K mg base CX0 4 fH fdH ["order", "other"] (spChks K T) := ok_check_orders Hh.fn C O
  have G2 : FnOk P w K mg base CX0 4 fT fdT ["order"] (spTab K T) := ok_corner_table Tt.fn C O me
  have G3 : FnOk P w K mg base CX0 4 fA fdA ["size"] (spAcs T) := (ok_all_corners Aa.fn O.B).mono (by decide)
  refine F.ok sc_over (fun vs H Q E h => ?_) (fun cdv A outer s H vs Q E hr h => ?_)
  · obtain ⟨a, d, o, p, rfl, _⟩ := h
    rfl
  · obtain ⟨a, d, o, p, rfl, ha, hd, io, ip, el, ht, q1, q2⟩ := h
    have b9 := io.hi
    refine ⟨_, pss_cons (ps_expr (pe_call G1 hr (by rfl) Hh.at_ Hh.fn.kp Hh.bind .nil pass0 (pa_cons (pv 0) (pa_cons (pv 1) pa_nil))))
      (pss_cons (ps_par (i := 2) (j := 3) (by rfl) sc_over.nd rfl rfl (by decide) rfl rfl (pa_cons (pe_call G2 hr (by rfl) Tt.at_ Tt.fn.kp Tt.bind .nil pass0 (pa_cons (pv 0) pa_nil)) (pa_cons (pe_call G2 hr (by rfl) Tt.at_ Tt.fn.kp Tt.bind .nil pass0 (pa_cons (pv 1) pa_nil)) pa_nil)) (by rfl))
      (pss_cons (ps_for PassesOwn.never rfl (pi_list (pe_call G3 hr (by rfl) Aa.at_ Aa.fn.kp Aa.bind .nil pass0 (pa_cons (pe_callB call_len (by rfl) O.B.len PySem.boot_len (pa_cons (pv 0) pa_nil)) pa_nil)))
          (pg_tup rfl (pgs_cons (pg_name (i := 4) sc_over.nd rfl (.inl rfl)) (pgs_cons (pg_name (i := 5) sc_over.nd rfl (.inl rfl)) pgs_nil)))
        (pss_one (ps_if (pt_cmpR op_gt (pe_ix ix_list (pe_ix ix_list (pv 2) (pe_op op_sub (pv 4) pe_int) (fun _ _ => rfl)) (pe_op op_sub (pv 5) pe_int) (fun _ _ => rfl)) (pe_ix ix_list (pe_ix ix_list (pv 3) (pe_op op_sub (pv 4) pe_int) (fun _ _ => rfl)) (pe_op op_sub (pv 5) pe_int) (fun _ _ => rfl)) (nomark _))
          (pss_one (ps_ret (pe_tup (pa_cons (pv 4) (pa_cons (pv 5) pa_nil))))) pss_nil)))
      (pss_one (ps_ret pe_non)))), ?_⟩
    refine ⟨.ref a, rfl, .ref d, rfl, a, d, o, p, rfl, ha, io, hd, ip, el, ht, fun H1 g1 => ?_⟩
    refine ⟨.ref a, rfl, a, o, rfl, g1.lt ht ha, io, g1.1, fun H2 tA rA g2' hA eA wA _ => ?_⟩
    have g2 := g1.trans g2'
    refine ⟨.ref d, rfl, d, p, rfl, g2.lt ht hd, ip, g2.1, fun H3 tB rB g3' hB eB wB _ => ⟨_, _, rfl, ?_⟩⟩
    have g3 := g2.trans g3'
    have l3 := lenV_seq (K := K) (g3.lt ht ha)
    rw [vl_len] at l3
    refine ⟨.ref a, rfl, .ref a, _, rfl, l3, o.length, rfl, b9, g3.1, fun H4 L us g4' hL eL pL => ?_⟩
    have g4 := g3.trans g4'
    have t4 := g4.1
    have eA4 := (g3'.trans g4').lst g2.1 eA
    have wA4 := wA.go g2.1 (g3'.trans g4')
    have eB4 := g4'.lst g3.1 eB
    have wB4 := wB.go g3.1 g4'
    have lus := Paired.length pL
    refine ⟨L, rfl, ⟨_, SqL.of eL⟩, ?_⟩
    refine for_list (xs := us.map V.ref) (fun i σ H5 => ∃ mv kv : Option V, σ = [some (.ref a), some (.ref d), some (.ref tA), some (.ref tB), mv, kv] ∧ H5 = H4 ∧ ∀ x ∈ (acs o.length).take i, more o p x = false) ⟨none, none, rfl, rfl, fun _ h => (nomatch h)⟩ (fun i σ H5 _ ⟨_, _, _, e5, _⟩ => by rw [e5]; exact SqL.of eL) ?_ ?_
    · rintro i x σ H5 hx ⟨mv, kv, rfl, rfl, no⟩
      rw [List.getElem?_map] at hx
      obtain ⟨ti, hti, rfl⟩ := Option.map_eq_some_iff.mp hx
      obtain ⟨mk, hmk, eti⟩ := Paired.getL pL hti
      obtain ⟨m1, m2, k1, k2⟩ := acs_mem (List.mem_of_getElem? hmk)
      obtain ⟨rowA, hra, era⟩ := rows_at wA4 (m := mk.1 - 1) (by omega)
      obtain ⟨rowB, hrb, erb⟩ := rows_at wB4 (m := mk.1 - 1) (by omega)
      rw [show mk.1 - 1 + 1 = mk.1 by omega] at era erb
      have ca := crow_at (o := o) (m := mk.1) (k := mk.2 - 1) (by omega)
      have cb := crow_at (o := p) (m := mk.1) (k := mk.2 - 1) (by omega)
      rw [show mk.2 - 1 + 1 = mk.2 by omega] at ca cb
      have em : ((mk.1 : Nat) : Int) - 1 = ((mk.1 - 1 : Nat) : Int) := by omega
      have ek : ((mk.2 : Nat) : Int) - 1 = ((mk.2 - 1 : Nat) : Int) := by omega
      have iA : (ts : List Addr) → ts[mk.1 - 1]? = some rowA → atI (ts.map V.ref) (((mk.1 : Nat) : Int) - 1) = some (V.ref rowA) := fun ts h => by
        rw [em]
        exact atI_nat (by rw [List.getElem?_map, h]; rfl)
      have iB : (ts : List Addr) → ts[mk.1 - 1]? = some rowB → atI (ts.map V.ref) (((mk.1 : Nat) : Int) - 1) = some (V.ref rowB) := fun ts h => by
        rw [em]
        exact atI_nat (by rw [List.getElem?_map, h]; rfl)
      refine ⟨ti, _, rfl, SqT.of eti, rfl, _, _, rfl, _, _, rfl, rfl, ?_⟩
      refine ⟨.ref tA, rfl, .int (mk.1 : Int), rfl, _, 1, rfl, rfl, tA, _, _, _, rfl, rfl, SqL.of eA4, iA _ hra, .int (mk.2 : Int), rfl, _, 1, rfl, rfl, rowA, _, _, _, rfl, rfl, SqL.of era, by rw [ek]; exact atI_nat (vl_get ca), ?_⟩
      refine ⟨.ref tB, rfl, .int (mk.1 : Int), rfl, _, 1, rfl, rfl, tB, _, _, _, rfl, rfl, SqL.of eB4, iB _ hrb, .int (mk.2 : Int), rfl, _, 1, rfl, rfl, rowB, _, _, _, rfl, rfl, SqL.of erb, by rw [ek]; exact atI_nat (vl_get cb), ?_⟩
      refine ⟨_, _, rfl, rfl, _, rfl, ?_⟩
      have split := List.take_append_drop i (acs o.length)
      by_cases gt : cc o mk.1 mk.2 > cc p mk.1 mk.2
      · rw [decide_eq_true (show ((cc p mk.1 mk.2 : Nat) : Int) < ((cc o mk.1 mk.2 : Nat) : Int) by omega)]
        refine iteT ⟨.int (mk.1 : Int), rfl, .int (mk.2 : Int), rfl, by show 2 ≤ sizeLine; decide, fun t hn => ?_⟩
        refine q2 _ t mk.1 mk.2 (g4.trans (Go.new t4 hn)) (g4.free hn) upd_same ?_
        unfold fstOver
        rw [← split, List.find?_append, List.find?_eq_none.mpr (fun x hx => by rw [no x hx]; exact Bool.false_ne_true)]
        have hd' : (acs o.length).drop i = mk :: (acs o.length).drop (i + 1) := by
          obtain ⟨hl, e⟩ := List.getElem?_eq_some_iff.mp hmk
          rw [List.drop_eq_getElem_cons hl, e]
        rw [hd', List.find?_cons_of_pos (by exact decide_eq_true gt)]
        rfl
      · rw [decide_eq_false (show ¬ ((cc p mk.1 mk.2 : Nat) : Int) < ((cc o mk.1 mk.2 : Nat) : Int) by omega)]
        refine iteF ⟨_, _, rfl, rfl, fun x hx => ?_⟩
        rw [take_snoc hmk] at hx
        rcases List.mem_append.mp hx with hx | hx
        · exact no x hx
        · cases List.mem_singleton.mp hx
          exact decide_eq_false gt
    · rintro σ H5 ⟨mv, kv, rfl, rfl, no⟩
      rw [List.length_map, lus, List.take_length] at no
      refine q1 _ g4 ?_
      unfold fstOver
      exact List.find?_eq_none.mpr fun x hx => by rw [no x hx]; exact Bool.false_ne_true

def Ov (K : PySem.W.Frag) (mg : Str → Option Value) (f : Addr) (fd : FuncData) : Prop := Df K mg "over" s_over ["order", "other"] f fd
def spBelow (K : PySem.W.Frag) (T : Addr → Prop) : Sp := fun vs H Q _ => ∃ (a d : Addr) (o p : List Nat), vs = [.ref a, .ref d] ∧ SeqLT K H a (vl o) ∧ SeqLT K H d (vl p) ∧ IsOrd o ∧ IsOrd p ∧ o.length = p.length ∧ Tabs H T ∧ ∀ H', Go T H H' → Q (.bl (fstOver o p).isNone) H'
end
abbrev s_lies_below : Stmt := topS 25
theorem sc_lies_below : FnScope ["order", "other", "more", "thing", "there", "k"] ["order", "other"] (defScope s_lies_below) := ⟨rfl, rfl, rfl, by decide +kernel, rfl, by decide +kernel, by decide +kernel⟩
def rGetL : V → V → Hp → VK → Prop := fun x y H Q => ∃ p xs i v, x = .ref p ∧ y = .int i ∧ H p = some (.lst xs) ∧ 0 ≤ i ∧ xs[i.toNat]? = some v ∧ Q v H
theorem get_list : PGet X rGetL := by
  intro pins s σ H x y v u Q I rx ry h
  obtain ⟨p, xs, i, z, rfl, rfl, hq, h0, he, q⟩ := h
  cases rx
  obtain ⟨t, rfl⟩ := ry
  obtain ⟨its, r, pl, hz⟩ := I.list (SqL.of hq)
  obtain ⟨w, ew, rw'⟩ := r.get he
  have hl := r.length
  have hn := line63
  have hi := (List.getElem?_eq_some_iff.mp he).1
  have fin : EP X pins σ Q w s := ⟨z, H, I, rw', q⟩
  exact wpAny_getItem_list pl.isList h0 (by omega) (by simpa using ew) fin

theorem seqLT_K {K : PySem.W.Frag} {H : Hp} {a : Addr} {xs : List V} (h : SeqLT K H a xs) : ∃ b, SqK K b H a xs := by
  rcases h with h | h
  · exact ⟨false, h⟩
  · exact ⟨true, h⟩
theorem Go.sqK {K : PySem.W.Frag} {b : Bool} {T : Addr → Prop} {a : Addr} {H H' : Hp} {xs : List V} (g : Go T H H') (t : Tabs H T) (h : SqK K b H a xs) : SqK K b H' a xs := by
  cases b with
  | false => exact g.seqL t h
  | true => exact g.seqT t h
/-- a row of whole numbers, by a function -/
def rowF (n : Nat) (f : Nat → Int) : List V := (List.range (n + 1)).map fun k => V.int (f k)
theorem len_rowF (n : Nat) (f : Nat → Int) : (rowF n f).length = n + 1 := by
  unfold rowF
  rw [List.length_map, List.length_range]
theorem rowF_at {n : Nat} {f : Nat → Int} {k : Nat} (h : k ≤ n) : (rowF n f)[k]? = some (V.int (f k)) := by
  unfold rowF
  rw [List.getElem?_map, List.getElem?_range (by omega)]
  rfl
theorem rowF_set {n : Nat} {f : Nat → Int} {k : Nat} {z : Int} : (rowF n f).set k (V.int z) = rowF n fun j => if j = k then z else f j := by
  refine List.ext_getElem? fun j => ?_
  by_cases h : j < n + 1
  · rw [rowF_at (by omega)]
    by_cases e : j = k
    · subst e
      rw [List.getElem?_set_self (by rw [len_rowF]; exact h), if_pos rfl]
    · rw [List.getElem?_set_ne (Ne.symm e), rowF_at (by omega), if_neg e]
  · rw [List.getElem?_eq_none (by rw [List.length_set, len_rowF]; omega), List.getElem?_eq_none (by rw [len_rowF]; omega)]
theorem rowF_congr {n : Nat} {f g : Nat → Int} (h : ∀ k, k ≤ n → f k = g k) : rowF n f = rowF n g := by
  unfold rowF
  refine List.map_congr_left fun k hk => ?_
  have := List.mem_range.mp hk
  rw [h k (by omega)]
def dfc (o p : List Nat) (i k : Nat) : Int := ((cc o i k : Nat) : Int) - ((cc p i k : Nat) : Int)
theorem cc_zero (o : List Nat) (k : Nat) : cc o 0 k = 0 := by
  unfold cc
  rw [List.take_zero]
  rfl
theorem zeros_row (n : Nat) (o p : List Nat) : (List.replicate (n + 1) [V.int 0]).flatten = rowF n (dfc o p 0) := by
  have e : rowF n (dfc o p 0) = List.replicate (n + 1) (V.int 0) := by
    refine List.eq_replicate_iff.mpr ⟨len_rowF _ _, fun v hv => ?_⟩
    obtain ⟨k, _, rfl⟩ := List.mem_map.mp hv
    show V.int (((cc o 0 k : Nat) : Int) - ((cc p 0 k : Nat) : Int)) = V.int 0
    rw [cc_zero, cc_zero]
    rfl
  rw [e]
  generalize n + 1 = m
  induction m with
  | zero => rfl
  | succ m ih => rw [List.replicate_succ, List.flatten_cons, ih, List.replicate_succ]; rfl
theorem acs_hasZ {n i k : Nat} (hi : i < n) (h1 : 1 ≤ k) (h2 : k ≤ n) : (i + 1, k) ∈ acs n := by
  unfold acs
  refine List.mem_flatMap.mpr ⟨i, List.mem_range.mpr hi, List.mem_map.mpr ⟨k - 1, List.mem_range.mpr (by omega), ?_⟩⟩
  rw [show k - 1 + 1 = k by omega]
theorem over_no {o p : List Nat} (h : ∀ m, m ≤ o.length → ∀ k, 1 ≤ k → k ≤ o.length → cc o m k ≤ cc p m k) : (fstOver o p).isNone = true := by
  unfold fstOver
  rw [Option.isNone_iff_eq_none, List.find?_eq_none]
  intro x hx
  obtain ⟨m1, m2, k1, k2⟩ := acs_mem hx
  unfold more
  rw [decide_eq_false (by have := h x.1 m2 x.2 k1 k2; omega)]
  exact Bool.false_ne_true
theorem over_yes {o p : List Nat} {i k : Nat} (hi : i < o.length) (h1 : 1 ≤ k) (h2 : k ≤ o.length) (h : cc p (i + 1) k < cc o (i + 1) k) : (fstOver o p).isNone = false := by
  cases e : (fstOver o p).isNone with
  | false => rfl
  | true =>
    exfalso
    unfold fstOver at e
    rw [Option.isNone_iff_eq_none, List.find?_eq_none] at e
    refine e _ (acs_hasZ hi h1 h2) ?_
    unfold more
    exact decide_eq_true h
section
variable {P : Program} {w : World} {K : PySem.W.Frag} {mg : Str → Option Value} {base : Heap} {T : Addr → Prop} {c fO fI : Addr} {fdO fdI : FuncData}
theorem ok_lies_below {f : Addr} {fd : FuncData} (F : Fun K "lies_below" "lies_below" s_lies_below f fd) (O : Io K mg base T c fO fI fdO fdI) (mz : mg "zip" = none) : FnOk P w K mg base CX0 1 f fd ["order", "other"] (spBelow K T) := by
  refine F.ok sc_lies_below (fun vs H Q E h => ?_) (fun cdv A outer s H vs Q E hr h => ?_)
  · obtain ⟨a, d, o, p, rfl, _⟩ := h
    rfl
  · obtain ⟨a, d, o, p, rfl, ha, hd, io, ip, el, ht, q⟩ := h
    have b9 := io.hi
    refine ⟨_, (pss_cons (ps_set (i := 2) sc_lies_below.nd rfl (Or.inl rfl) (pe_op op_rep (pe_lst (pa_cons pe_int pa_nil)) (pe_op op_add (pe_callB call_len (by rfl) O.B.len PySem.boot_len (pa_cons (pv 0) pa_nil)) pe_int)))
      (pss_cons (ps_for PassesOwn.never rfl (pi_zipM (by rfl) mz (pa_cons (pv 0) (pa_cons (pv 1) pa_nil))) (pg_tup rfl (pgs_cons (pg_name (i := 3) sc_lies_below.nd rfl (Or.inl rfl)) (pgs_cons (pg_name (i := 4) sc_lies_below.nd rfl (Or.inl rfl)) pgs_nil)))
        (pss_cons (ps_for PassesOwn.never rfl (pi_range2 (by rfl) O.B.range (pa_cons (pe_op op_add (pv 3) pe_int) (pa_cons (pe_op op_add (pv 4) pe_int) pa_nil))) (pg_name (i := 5) sc_lies_below.nd rfl (Or.inl rfl))
        (pss_one (ps_augS (pv 2) (pv 5) get_list pe_int ip_sub set_list)))
      (pss_one (ps_for PassesOwn.never rfl (pi_range2 (by rfl) O.B.range (pa_cons (pe_op op_add (pv 4) pe_int) (pa_cons (pe_op op_add (pv 3) pe_int) pa_nil))) (pg_name (i := 5) sc_lies_below.nd rfl (Or.inl rfl))
        (pss_cons (ps_augS (pv 2) (pv 5) get_list pe_int ip_add set_list)
      (pss_one (ps_if (pt_cmpR op_gt (pe_ix ix_list (pv 2) (pv 5) (fun _ _ => rfl)) pe_int (nomark _))
        (pss_one (ps_ret pe_bl)) pss_nil)))))))
      (pss_one (ps_ret pe_bl)))), ?_⟩
    refine ⟨by show 1 ≤ sizeLine; decide, fun z hz => ?_⟩
    have g1 := Go.new (o := .lst [V.int 0]) ht hz
    have l1 := lenV_seq (K := K) (g1.lt ht ha)
    rw [vl_len] at l1
    refine ⟨.ref a, rfl, .ref a, _, rfl, l1, _, 1, rfl, rfl, z, (o.length : Int) + 1, [V.int 0], rfl, rfl, upd_same, by omega, by omega, Nat.le_of_lt (small9 (by show 1 * _ ≤ 100; omega)), fun D hD => ?_⟩
    rw [show ((o.length : Int) + 1).toNat = o.length + 1 by omega, zeros_row o.length o p]
    have g2 := g1.trans (Go.new (o := .lst (rowF o.length (dfc o p 0))) g1.1 hD)
    have eD : (upd (upd H z (.lst [V.int 0])) D (.lst (rowF o.length (dfc o p 0)))) D = some (.lst (rowF o.length (dfc o p 0))) := upd_same
    have hD0 := g1.free hD
    generalize upd (upd H z (.lst [V.int 0])) D (.lst (rowF o.length (dfc o p 0))) = H2 at g2 eD ⊢
    obtain ⟨b1, sa⟩ := seqLT_K ha
    obtain ⟨b2, sd⟩ := seqLT_K hd
    refine ⟨.ref a, rfl, .ref d, rfl, a, d, b1, b2, vl o, vl p, rfl, g2.sqK ht sa, g2.sqK ht sd, ?_⟩
    refine for_zipM (by rw [vl_len, vl_len, el]) (fun i σ H3 => ∃ xv yv kv : Option V, σ = [some (.ref a), some (.ref d), some (.ref D), xv, yv, kv] ∧ Go T H H3 ∧ H3 D = some (.lst (rowF o.length (dfc o p i))) ∧ ∀ m, m ≤ i → ∀ k, 1 ≤ k → k ≤ o.length → cc o m k ≤ cc p m k)
      ⟨none, none, none, rfl, g2, eD, fun m hm k _ _ => by rw [Nat.le_zero.mp hm, cc_zero, cc_zero]; exact Nat.le_refl _⟩ (fun i σ H3 ⟨_, _, _, _, g3, _⟩ => ⟨g3.sqK ht sa, g3.sqK ht sd⟩) ?_ ?_
    · rintro i vx vy t σ H3 hvx hvy ⟨xv, yv, kv, rfl, g3, e3, no⟩ htn
      obtain ⟨x, hx, rfl⟩ := vl_inv hvx
      obtain ⟨y, hy, rfl⟩ := vl_inv hvy
      have il := (List.getElem?_eq_some_iff.mp hx).1
      have x9 := io.small x (List.mem_of_getElem? hx)
      have y9 := ip.small y (List.mem_of_getElem? hy)
      rw [← el] at y9
      have cx := cc_step hx
      have cy := cc_step hy
      have g4 := g3.trans (Go.new (o := .tup [V.int (x : Int), V.int (y : Int)]) g3.1 htn)
      have e4 : (upd H3 t (.tup [V.int (x : Int), V.int (y : Int)])) D = some (.lst (rowF o.length (dfc o p i))) := by
        rw [upd_ne (ne_of_none e3 htn)]
        exact e3
      refine ⟨t, _, rfl, SqT.of upd_same, rfl, _, _, rfl, _, _, rfl, rfl, ?_⟩
      generalize upd H3 t (.tup [V.int (x : Int), V.int (y : Int)]) = H4 at g4 e4 ⊢
      -- what the other one counts more
      refine ⟨.int (x : Int), rfl, _, 1, rfl, rfl, .int (y : Int), rfl, _, 1, rfl, rfl, (x : Int) + 1, (y : Int) + 1, rfl, ⟨by omega, by omega, by omega, by omega⟩, ?_⟩
      refine for_range (lo := (x : Int) + 1) (n := ((y : Int) + 1 - ((x : Int) + 1)).toNat) (fun j σ H5 => ∃ kv : Option V, σ = [some (.ref a), some (.ref d), some (.ref D), some (.int (x : Int)), some (.int (y : Int)), kv] ∧ Go T H H5 ∧ H5 D = some (.lst (rowF o.length fun k => dfc o p i k - if x < k ∧ k ≤ x + j then 1 else 0)))
        ⟨_, rfl, g4, by rw [e4]; exact congrArg (fun l => some (HO.lst l)) (rowF_congr fun k _ => by rw [if_neg (by omega)]; omega)⟩ ?_ ?_
      · rintro j σ H5 hj ⟨kv, rfl, g5, e5⟩
        have hk : x + 1 + j ≤ o.length := by omega
        have ek : (x : Int) + 1 + (j : Int) = ((x + 1 + j : Nat) : Int) := by omega
        refine ⟨.ref D, rfl, .int ((x : Int) + 1 + (j : Int)), rfl, D, _, (x : Int) + 1 + (j : Int), _, rfl, rfl, e5, by omega, by rw [ek, Int.toNat_natCast]; exact rowF_at hk, _, 1, rfl, rfl, D, _, (x : Int) + 1 + (j : Int), x + 1 + j, rfl, rfl, e5, by rw [len_rowF, ek]; exact ix_in (by omega), ?_⟩
        refine ⟨_, rfl, g5.put hD0 ht, ?_⟩
        rw [upd_same]
        refine congrArg (fun l => some (HO.lst l)) ?_
        rw [rowF_set]
        refine rowF_congr fun k _ => ?_
        by_cases c1 : k = x + 1 + j
        · subst c1
          rw [if_pos rfl, if_neg (by omega), if_pos (by omega)]
          show dfc o p i (x + 1 + j) - 0 - 1 = dfc o p i (x + 1 + j) - 1
          omega
        · rw [if_neg c1]
          by_cases c2 : x < k ∧ k ≤ x + j
          · rw [if_pos c2, if_pos (by omega)]
          · rw [if_neg c2, if_neg (by omega)]
      · rintro σ H5 ⟨kv, rfl, g5, e5⟩
        refine ⟨.int (y : Int), rfl, _, 1, rfl, rfl, .int (x : Int), rfl, _, 1, rfl, rfl, (y : Int) + 1, (x : Int) + 1, rfl, ⟨by omega, by omega, by omega, by omega⟩, ?_⟩
        refine for_range (lo := (y : Int) + 1) (n := ((x : Int) + 1 - ((y : Int) + 1)).toNat) (fun j σ H6 => ∃ kv : Option V, σ = [some (.ref a), some (.ref d), some (.ref D), some (.int (x : Int)), some (.int (y : Int)), kv] ∧ Go T H H6 ∧ H6 D = some (.lst (rowF o.length fun k => dfc o p i k - (if x < k ∧ k ≤ y then 1 else 0) + if y < k ∧ k ≤ y + j then 1 else 0)) ∧ ∀ k, y < k → k ≤ y + j → cc o (i + 1) k ≤ cc p (i + 1) k)
          ⟨_, rfl, g5, by rw [e5]; exact congrArg (fun l => some (HO.lst l)) (rowF_congr fun k _ => by
            rw [if_neg (show ¬ (y < k ∧ k ≤ y + 0) by omega)]
            by_cases c2 : x < k ∧ k ≤ y
            · rw [if_pos c2, if_pos (by omega)]
              omega
            · rw [if_neg c2, if_neg (by omega)]
              omega), fun k h1 h2 => absurd h1 (by omega)⟩ ?_ ?_
        · rintro j σ H6 hj ⟨kv, rfl, g6, e6, ok6⟩
          have hk : y + 1 + j ≤ o.length := by omega
          have ek : (y : Int) + 1 + (j : Int) = ((y + 1 + j : Nat) : Int) := by omega
          refine ⟨.ref D, rfl, .int ((y : Int) + 1 + (j : Int)), rfl, D, _, (y : Int) + 1 + (j : Int), _, rfl, rfl, e6, by omega, by rw [ek, Int.toNat_natCast]; exact rowF_at hk, _, 1, rfl, rfl, D, _, (y : Int) + 1 + (j : Int), y + 1 + j, rfl, rfl, e6, by rw [len_rowF, ek]; exact ix_in (by omega), ?_⟩
          have g7 := g6.put (o := .lst ((rowF o.length fun k => dfc o p i k - (if x < k ∧ k ≤ y then 1 else 0) + if y < k ∧ k ≤ y + j then 1 else 0).set (y + 1 + j) (V.int (dfc o p i (y + 1 + j) - (if x < y + 1 + j ∧ y + 1 + j ≤ y then 1 else 0) + (if y < y + 1 + j ∧ y + 1 + j ≤ y + j then 1 else 0) + 1)))) hD0 ht
          have erow : (rowF o.length fun k => dfc o p i k - (if x < k ∧ k ≤ y then 1 else 0) + if y < k ∧ k ≤ y + j then 1 else 0).set (y + 1 + j) (V.int (dfc o p i (y + 1 + j) - (if x < y + 1 + j ∧ y + 1 + j ≤ y then 1 else 0) + (if y < y + 1 + j ∧ y + 1 + j ≤ y + j then 1 else 0) + 1)) = rowF o.length fun k => dfc o p i k - (if x < k ∧ k ≤ y then 1 else 0) + if y < k ∧ k ≤ y + (j + 1) then 1 else 0 := by
            rw [rowF_set]
            refine rowF_congr fun k _ => ?_
            by_cases c1 : k = y + 1 + j
            · subst c1
              rw [if_pos rfl, if_neg (show ¬ (x < y + 1 + j ∧ y + 1 + j ≤ y) by omega), if_neg (show ¬ (y < y + 1 + j ∧ y + 1 + j ≤ y + j) by omega), if_pos (show y < y + 1 + j ∧ y + 1 + j ≤ y + (j + 1) by omega)]
              omega
            · rw [if_neg c1]
              by_cases c2 : y < k ∧ k ≤ y + j
              · rw [if_pos c2, if_pos (show y < k ∧ k ≤ y + (j + 1) by omega)]
              · rw [if_neg c2, if_neg (show ¬ (y < k ∧ k ≤ y + (j + 1)) by omega)]
          have e7 : (upd H6 D (.lst ((rowF o.length fun k => dfc o p i k - (if x < k ∧ k ≤ y then 1 else 0) + if y < k ∧ k ≤ y + j then 1 else 0).set (y + 1 + j) (V.int (dfc o p i (y + 1 + j) - (if x < y + 1 + j ∧ y + 1 + j ≤ y then 1 else 0) + (if y < y + 1 + j ∧ y + 1 + j ≤ y + j then 1 else 0) + 1))))) D = some (.lst (rowF o.length fun k => dfc o p i k - (if x < k ∧ k ≤ y then 1 else 0) + if y < k ∧ k ≤ y + (j + 1) then 1 else 0)) := by
            rw [upd_same, erow]
          refine ⟨.ref D, rfl, .int ((y : Int) + 1 + (j : Int)), rfl, D, _, (y : Int) + 1 + (j : Int), _, rfl, rfl, SqL.of e7, by rw [ek]; exact atI_nat (rowF_at hk), _, 0, rfl, rfl, _, rfl, ?_⟩
          have cxk := cx (y + 1 + j)
          have cyk := cy (y + 1 + j)
          rw [if_pos (by omega)] at cxk
          rw [if_neg (by omega)] at cyk
          have val : dfc o p i (y + 1 + j) - (if x < y + 1 + j ∧ y + 1 + j ≤ y then 1 else 0) + (if y < y + 1 + j ∧ y + 1 + j ≤ y + (j + 1) then 1 else 0) = ((cc o (i + 1) (y + 1 + j) : Nat) : Int) - ((cc p (i + 1) (y + 1 + j) : Nat) : Int) := by
            rw [if_neg (by omega), if_pos (by omega)]
            unfold dfc
            omega
          rw [val]
          by_cases c : cc p (i + 1) (y + 1 + j) < cc o (i + 1) (y + 1 + j)
          · rw [decide_eq_true (show (0 : Int) < ((cc o (i + 1) (y + 1 + j) : Nat) : Int) - ((cc p (i + 1) (y + 1 + j) : Nat) : Int) by omega)]
            refine iteT ?_
            have z := q _ g7
            rw [over_yes il (by omega) hk c] at z
            exact z
          · rw [decide_eq_false (show ¬ (0 : Int) < ((cc o (i + 1) (y + 1 + j) : Nat) : Int) - ((cc p (i + 1) (y + 1 + j) : Nat) : Int) by omega)]
            refine iteF ⟨_, rfl, g7, e7, fun k h1 h2 => ?_⟩
            by_cases c1 : k = y + 1 + j
            · subst c1
              omega
            · exact ok6 k h1 (by omega)
        · rintro σ H6 ⟨kv, rfl, g6, e6, ok6⟩
          refine ⟨_, _, _, rfl, g6, ?_, fun m hm k h1 h2 => ?_⟩
          · rw [e6]
            refine congrArg (fun l => some (HO.lst l)) (rowF_congr fun k _ => ?_)
            have cxk := cx k
            have cyk := cy k
            unfold dfc
            by_cases c1 : k ≤ x <;> by_cases c2 : k ≤ y
            · rw [if_pos c1] at cxk
              rw [if_pos c2] at cyk
              rw [if_neg (by omega), if_neg (by omega)]
              omega
            · rw [if_pos c1] at cxk
              rw [if_neg c2] at cyk
              rw [if_neg (by omega), if_pos (by omega)]
              omega
            · rw [if_neg c1] at cxk
              rw [if_pos c2] at cyk
              rw [if_pos (by omega), if_neg (by omega)]
              omega
            · rw [if_neg c1] at cxk
              rw [if_neg c2] at cyk
              rw [if_neg (by omega), if_neg (by omega)]
              omega
          · by_cases em : m = i + 1
            · subst em
              by_cases c3 : y < k ∧ k ≤ x
              · exact ok6 k c3.1 (by omega)
              · have n0 := no i (Nat.le_refl _) k h1 h2
                have cxk := cx k
                have cyk := cy k
                by_cases c1 : k ≤ x
                · rw [if_pos c1] at cxk
                  rw [if_pos (by omega)] at cyk
                  omega
                · rw [if_neg c1] at cxk
                  omega
            · exact no m (by omega) k h1 h2
    · rintro σ H3 ⟨xv, yv, kv, rfl, g3, e3, no⟩
      have z := q _ g3
      rw [vl_len] at no
      rw [over_no no] at z
      exact z
def Lb_ (K : PySem.W.Frag) (mg : Str → Option Value) (f : Addr) (fd : FuncData) : Prop := Df K mg "lies_below" s_lies_below ["order", "other"] f fd
theorem ok_is_below {f fH fL fC : Addr} {fd fdH fdL fdC : FuncData} (F : Fun K "is_below" "is_below" s_is_below f fd) (Hh : Ch K mg fH fdH) (L_ : Lb_ K mg fL fdL) (C : Cd K mg fC fdC) (O : Io K mg base T c fO fI fdO fdI) (mz : mg "zip" = none) : FnOk P w K mg base CX0 6 f fd ["order", "other"] (spBelow K T) := by
  have G1 : FnOk P w K mg base CX0 5 fH fdH ["order", "other"] (spChks K T) := (ok_check_orders Hh.fn C O).mono (by decide)
  have G2 : FnOk P w K mg base CX0 5 fL fdL ["order", "other"] (spBelow K T) := (ok_lies_below L_.fn O mz).mono (by decide)
  refine F.ok sc_is_below (fun vs H Q E h => ?_) (fun cdv A outer s H vs Q E hr h => ?_)
  · obtain ⟨a, d, o, p, rfl, _⟩ := h
    rfl
  · obtain ⟨a, d, o, p, rfl, ha, hd, io, ip, el, ht, q⟩ := h
    refine ⟨_, (pss_cons (ps_expr (pe_call G1 hr (by rfl) Hh.at_ Hh.fn.kp Hh.bind .nil pass0 (pa_cons (pv 0) (pa_cons (pv 1) pa_nil))))
      (pss_one (ps_ret (pe_call G2 hr (by rfl) L_.at_ L_.fn.kp L_.bind .nil pass0 (pa_cons (pv 0) (pa_cons (pv 1) pa_nil)))))), ?_⟩
    refine ⟨.ref a, rfl, .ref d, rfl, a, d, o, p, rfl, ha, io, hd, ip, el, ht, fun H1 g1 => ?_⟩
    exact ⟨.ref a, rfl, .ref d, rfl, a, d, o, p, rfl, g1.lt ht ha, g1.lt ht hd, io, ip, el, g1.1, fun H2 g2 => q H2 (g1.trans g2)⟩
end
end Lb

set_option Elab.async false
set_option linter.all false
set_option maxRecDepth 100000
set_option maxHeartbeats 4000000
namespace Lb
open PySem PySem.Spec PyProof.Rows L2

section
variable {P : Program} {w : World} {K : PySem.W.Frag} {mg : Str → Option Value} {base : Heap} {T : Addr → Prop}
/-- is_within_bounds of ints, at the library's level -/
theorem within_call {fI fW : Addr} {fdI fdW : FuncData} (FW : Fun K "is_within_bounds" "is_within_bounds" s_is_within_bounds fW fdW) (FI : Fun K "is_integer" "is_integer" s_is_integer fI fdI) (gI : mg "is_integer" = some (.ref fI)) (B : Bl mg) (M : L2.Mod K mg base) {A : Around} {R : Result → Shared → Prop} {s : Shared} {i lo hi : Int} {t t2 t3 : Tok}
    (hd : A.depth + 3 < recursionLimit) (hk : ∀ b o, base.get? b = some o → s.heap.get? b = some o) (h1 : lo ≤ i) (h2 : i ≤ hi) (h : ∀ s', PySem.Keeps s s' → R (.ok (.ret (.bool true))) s') : codeAny (model P w) A (.call (.ref fW) ⟨[.int i t, .int lo t2, .int hi t3], []⟩) R s := by
  obtain ⟨oc, od, kV, doc, pm, an, cdv, ct, osl, rfl, lk, hcd⟩ := FW.ex
  refine Att.call_fn (binds := [("value", .int i t), ("low", .int lo t2), ("high", .int hi t3)]) (M.kin.keeps hk) (M.nolimit.keeps hk) lk hcd (by omega) (BindsTo.of_eq (by first | rfl | with_unfolding_all rfl)) (by first | rfl | decide | with_unfolding_all rfl) (fun s₁ IC => ?_) rfl rfl rfl
  obtain ⟨h₁, tk₁, rfl⟩ := IC.toInCall.same
  have k1 : ∀ b o, s.heap.get? b = some o → h₁.get? b = some o := IC.toInCall.keep
  have hn := IC.toInCall.ns
  have kb : ∀ b o, base.get? b = some o → h₁.get? b = some o := fun b o e => k1 b o (hk b o e)
  refine wpAny_execs_cons (wpAny_Return_some ?_)
  refine BoolOp_and (wpAny_Call_Name_kw (Calls.Name_function_global rfl (by rfl) (Calls.loadGlobal_global (M.glob.keeps kb) gI ?_) (by decide)))
  refine PySem.W.callWith_K (h₀ := base) M.kin FI.kp ?_ (by rfl) (by rfl)
  refine Calls.spliced_cons (wpAny_Name (wpAny_loadName_local (v := .int i t) rfl (by rfl) hn (by rfl) (Calls.spliced_nil ⟨M.kin.keeps kb, ?_⟩)) (by decide))
  refine wpAny_call (isint_call FI B M (by show A.depth + 1 < recursionLimit; omega) kb fun s' hs => ?_)
  obtain ⟨h', tk, rfl, k⟩ := hs
  have hn' := hn.keeps k
  refine wpAny_truthy_bool ?_
  refine BoolOp_one (Compare_chain (wpAny_Name (wpAny_loadName_local (v := .int lo t2) rfl (by rfl) hn' (by rfl) (chain_link (wpAny_Name (wpAny_loadName_local (v := .int i t) rfl (by rfl) hn' (by rfl) (le_int ?_)) (by decide)))) (by decide)))
  rw [decide_eq_true h1]
  refine wpAny_truthy_bool (ite_tt (chain_last (wpAny_Name (wpAny_loadName_local (v := .int hi t3) rfl (by rfl) hn' (by rfl) (le_int ?_)) (by decide))))
  rw [decide_eq_true h2]
  exact h _ ⟨h', tk, rfl, fun b o e => k b o (k1 b o e)⟩
end
end Lb

set_option Elab.async false
set_option linter.all false
set_option maxRecDepth 100000
set_option maxHeartbeats 4000000
namespace Lb
open PySem PySem.Spec PyProof.Rows L2

abbrev s_is_list : Stmt := topS 11
abbrev s_awb : Stmt := topS 13
theorem sc_is_list : FnScope ["value"] ["value"] (defScope s_is_list) := ⟨rfl, rfl, rfl, by decide +kernel, rfl, by decide +kernel, by decide +kernel⟩
theorem sc_awb : FnScope ["value", "low", "high"] ["value", "low", "high"] (defScope s_awb) := ⟨rfl, rfl, rfl, by decide +kernel, rfl, by decide +kernel, by decide +kernel⟩
theorem gens_free {env : Env} {scope : Scope} {x : Str} (fs : List Str) (h1 : scope.kind = .function) (h2 : scope.isCoroutine = false) (h3 : ∀ y ∈ scope.names, y.2 ≠ .cell) (h4 : scope.names.lookup (".0" : Str) = some NameKind.local) (h5 : scope.names.lookup x = some .local)
    (h6 : ∀ y ∈ scope.names, y.2 = .free → y.1 ∈ fs) (h7 : ∀ f ∈ fs, ∃ c, env.cells.lookup f = some c) : GxR.GenS env scope x := ⟨h1, h2, h3, h4, h5, fun y hy e => h7 _ (h6 y hy e)⟩
section
variable {P : Program} {w : World} {K : PySem.W.Frag} {mg : Str → Option Value} {base : Heap} {T : Addr → Prop}
def spIsl (K : PySem.W.Frag) (T : Addr → Prop) : Sp := fun vs H Q _ => ∃ (a : Addr) (xs : List V), vs = [.ref a] ∧ SeqLT K H a xs ∧ Tabs H T ∧ ∀ H', Go T H H' → Q (.bl true) H'
theorem ok_is_list {f : Addr} {fd : FuncData} (F : Fun K "is_list" "is_list" s_is_list f fd) (B : Bl mg) : FnOk P w K mg base CX0 1 f fd ["value"] (spIsl K T) := by
  refine F.ok sc_is_list (fun vs H Q E h => ?_) (fun cdv A outer s H vs Q E hr h => ?_)
  · obtain ⟨a, xs, rfl, _⟩ := h
    rfl
  · obtain ⟨a, xs, rfl, hs, ht, q⟩ := h
    refine ⟨_, pss_one (ps_ret (pe_callB call_isiT (by rfl) B.isinstance (by decide +kernel) (pa_cons (pv 0) (pa_cons (pe_tup (pa_cons (pe_bltn (v := .ty "list") (by rfl) B.list (by decide +kernel) rfl) (pa_cons (pe_bltn (v := .ty "tuple") (by rfl) B.tuple (by decide +kernel) rfl) pa_nil))) pa_nil)))), ?_⟩
    refine ⟨.ref a, rfl, Nat.le_of_ble_eq_true rfl, fun p hp => ?_⟩
    have g1 := Go.new (o := .tup [V.ty "list", V.ty "tuple"]) ht hp
    obtain ⟨t1, ty1, k1⟩ := ty_seq (g1.lt ht hs)
    exact ⟨.ref a, p, _, t1, _, true, rfl, upd_same, .cons (.ty _) (.cons (.ty _) .nil), ty1, k1, q _ g1⟩

/-- the elements of are_within_bounds -/
theorem elt_within {X : Cx} {fI fW : Addr} {fdI fdW : FuncData} {scope : Scope} {p1 p2 p3 p4 p5 : Pos} {k : Nat} {ps : List (Addr × Obj)} {σ : L2.St} {H : Hp} {z : Shared} {P0 : Addr} {lo hi : Int}
    (FW : Fun X.K "is_within_bounds" "is_within_bounds" s_is_within_bounds fW fdW) (gW : X.mg "is_within_bounds" = some (.ref fW)) (FI : Fun X.K "is_integer" "is_integer" s_is_integer fI fdI) (gI : X.mg "is_integer" = some (.ref fI)) (B : Bl X.mg) (hr : Room k X.A)
    (I : L2.Inv X ps σ H z) (tP : GxR.TabG H P0) (n1 : X.N[1]? = some ("low" : Str)) (n2 : X.N[2]? = some ("high" : Str)) (v1 : σ[1]? = some (some (.int lo))) (v2 : σ[2]? = some (some (.int hi))) (c1 : X.env.scope.names.lookup ("low" : Str) = some .cell) (c2 : X.env.scope.names.lookup ("high" : Str) = some .cell)
    (hk : scope.kind = .function) (l0 : scope.names.lookup ("is_within_bounds" : Str) = some .globalImplicit) (l1 : scope.names.lookup ("number" : Str) = some .local) (f1 : scope.names.lookup ("low" : Str) = some .free) (f2 : scope.names.lookup ("high" : Str) = some .free)
    (u1 : (cloFrom X.env.cells scope.names []).lookup ("low" : Str) = some ((X.env.cells.lookup ("low" : Str)).getD 0)) (u2 : (cloFrom X.env.cells scope.names []).lookup ("high" : Str) = some ((X.env.cells.lookup ("high" : Str)).getD 0)) :
    EltC X P0 z scope "number" (.Call (.Name "is_within_bounds" p1) [.Name "number" p2, .Name "low" p3, .Name "high" p4] [] p5) (fun v => ∃ i, v = .int i ∧ lo ≤ i ∧ i ≤ hi) (fun _ => true) := by
  rintro cenv A' E' v u t m rv ⟨i, rfl, h1, h2⟩ hA hD hU hsc hgl hbl hcs old hn hm
  obtain ⟨tk, rfl⟩ := rv
  have M := I.ok.mod
  have hb : ∀ b o, X.base.get? b = some o → t.heap.get? b = some o := fun b o e => old b o (fun zz => by
    have no := (I.bs b o e).2
    obtain ⟨tab, e2, _⟩ := tP
    rw [zz, e2] at no
    cases no) (I.bk b o e)
  have kd : cenv.scope.kind = .function := by rw [hsc]; exact hk
  have kI : cenv.kindOf "is_within_bounds" = some .globalImplicit := by show cenv.scope.names.lookup _ = _; rw [hsc]; exact l0
  have kT : cenv.kindOf "number" = some .local := by show cenv.scope.names.lookup _ = _; rw [hsc]; exact l1
  refine wpAny_Call_Name_kw (Calls.Name_function_global kd kI (Calls.loadGlobal_global (by rw [hgl]; exact M.glob.keeps hb) gW ?_) (by decide))
  refine PySem.W.callWith_K (h₀ := X.base) M.kin FW.kp ?_ (by rfl) (by rfl)
  show wpAny _ _ (spliced ((false, eval (.Name "number" p2) cenv) :: (false, eval (.Name "low" p3) cenv) :: (false, eval (.Name "high" p4) cenv) :: [])) _ _ _
  refine Calls.spliced_cons (wpAny_Name (wpAny_loadName_local kd kT hn hm ?_) (by decide))
  refine Calls.spliced_cons (free_read I n1 v1 c1 tP hsc hk f1 hcs u1 old fun w1 r1 => ?_)
  obtain ⟨t1, rfl⟩ := r1
  refine Calls.spliced_cons (free_read I n2 v2 c2 tP hsc hk f2 hcs u2 old fun w2 r2 => ?_)
  obtain ⟨t2, rfl⟩ := r2
  refine Calls.spliced_nil ⟨M.kin.keeps hb, ?_⟩
  exact wpAny_call (within_call FW FI gI B M (by have := hr.dp; omega) hb h1 h2 fun s' hs => ⟨rfl, hs⟩)
def spAwb (K : PySem.W.Frag) (T : Addr → Prop) : Sp := fun vs H Q _ => ∃ (a : Addr) (l : List Nat) (lo hi : Int), vs = [.ref a, .int lo, .int hi] ∧ SeqLT K H a (vl l) ∧ (∀ k ∈ l, lo ≤ (k : Int) ∧ (k : Int) ≤ hi) ∧ Tabs H T ∧ ∀ H', Go T H H' → Q (.bl true) H'
theorem ok_awb {f fL fI fW c t2 : Addr} {fd fdL fdI fdW : FuncData} (F : Fun K "are_within_bounds" "are_within_bounds" s_awb f fd) (hc : fd.code = .ref c) (hT : T t2) (TB : GxR.TabB base mg c t2) (L : Df K mg "is_list" s_is_list ["value"] fL fdL) (W : Df K mg "is_within_bounds" s_is_within_bounds ["value", "low", "high"] fW fdW) (I : Df K mg "is_integer" s_is_integer ["value"] fI fdI) (B : Bl mg) :
    FnOk P w K mg base CX0 2 f fd ["value", "low", "high"] (spAwb K T) := by
  have G : FnOk P w K mg base CX0 1 fL fdL ["value"] (spIsl K T) := ok_is_list L.fn B
  obtain ⟨oc, od, kV, doc, pm, an, cdv, ct, osl, rfl, lk, hcd⟩ := F.ex
  have hc' : cdv = .ref c := hc
  subst hc'
  refine fn_of lk hcd sc_awb (fun vs H Q E h => ?_) (fun A outer s H vs Q E hr h => ?_)
  · obtain ⟨a, l, lo, hi, rfl, _⟩ := h
    rfl
  · obtain ⟨a, l, lo, hi, rfl, hs, hb, ht, q⟩ := h
    refine ⟨_, pss_one (ps_ret (pe_and (pe_call G hr (by rfl) L.at_ L.fn.kp L.bind .nil pass0 (pa_cons (pv 0) pa_nil))
      (pe_one (pe_allC hr (by rfl) B.all (by decide +kernel) TB rfl (gens_free ["low", "high"] rfl rfl (by decide +kernel) (by rfl) (by rfl) (by decide +kernel) (fun f hf => by
        rcases List.mem_cons.mp hf with rfl | hf
        · exact ⟨_, rfl⟩
        · cases List.mem_singleton.mp hf
          exact ⟨_, rfl⟩)) (pv 0) (fun _ => rfl))))), ?_⟩
    refine ⟨.ref a, rfl, a, vl l, rfl, hs, ht, fun H1 g1 => ⟨true, rfl, iteT ?_⟩⟩
    refine ⟨.ref a, rfl, a, vl l, (fun v => ∃ i, v = .int i ∧ lo ≤ i ∧ i ≤ hi), (fun _ => true), rfl, g1.lt ht hs, fun v hv => ?_, g1.1 _ hT, fun ps z I1 => ?_, fun H2 tb => ?_⟩
    · obtain ⟨i, hi', rfl⟩ := List.mem_map.mp hv
      obtain ⟨k, hk, rfl⟩ := List.mem_map.mp hi'
      exact ⟨_, rfl, hb k hk⟩
    · exact elt_within W.fn W.at_ I.fn I.at_ B hr I1 (g1.1 _ hT) rfl rfl rfl rfl (by rfl) (by rfl) rfl (by rfl) (by rfl) (by rfl) (by rfl) (by rfl) (by rfl)
    · rw [List.all_eq_true.mpr (fun _ _ => rfl)]
      exact q _ (g1.trans (Go.tabbed hT g1.1 tb))
end
end Lb

set_option Elab.async false
set_option linter.all false
set_option maxRecDepth 100000
set_option maxHeartbeats 2000000
namespace Lb
open PySem PySem.Spec PyProof.Rows L2

section
variable {X : Cx}
/-! max of one list or tuple of whole numbers -/
theorem reads_ints {h : Heap} : ∀ (ns : List Int) (its : List Value), Vals (ns.map V.int) its → ∃ as, ReadsAll h its (ns.map PyData.int) as
  | [], its, r => by
    cases r
    exact ⟨_, .nil⟩
  | n :: ns, its, r => by
    cases r with
    | cons r1 r2 =>
      obtain ⟨t, rfl⟩ := r1
      obtain ⟨as, q⟩ := reads_ints ns _ r2
      exact ⟨_, .cons (.int n t) q⟩
theorem depth_ints : ∀ ns : List Int, PyData.depthAll (ns.map PyData.int) = 0
  | [] => by
    show PyData.depthAll [] = 0
    rw [PyData.depthAll]
  | n :: ns => by
    show PyData.depthAll (PyData.int n :: ns.map PyData.int) = 0
    rw [PyData.depthAll, depth_ints ns, PyData.depth]
    rfl
theorem alike_ints (ns : List Int) : PySem.W.AlikeAll (ns.map PyData.int) := by
  refine ⟨fun x hx y hy => ?_, fun x hx => ?_⟩
  · obtain ⟨i, _, rfl⟩ := List.mem_map.mp hx
    obtain ⟨j, _, rfl⟩ := List.mem_map.mp hy
    rfl
  · obtain ⟨i, _, rfl⟩ := List.mem_map.mp hx
    exact fun z => nomatch z
def rMaxS (K : PySem.W.Frag) : List V → Hp → VK → Prop := fun xs H Q => ∃ (a : Addr) (n : Int) (ns : List Int), xs = [.ref a] ∧ SeqLT K H a ((n :: ns).map V.int) ∧ Q (.int (ns.foldl max n)) H
theorem cr_maxS (hc : X.calm = true) (hu : X.A.units + 1 < cLine) : CallR X (.builtin "max") (rMaxS X.K) := by
  intro pins s σ H xs us Q I r h
  obtain ⟨a, n, ns, rfl, hq, q⟩ := h
  rw [Vals.ref1 r]
  have room : X.A.units + 1 + PyData.depthAll (PyData.int n :: ns.map PyData.int) < cLine := by
    have e := depth_ints (n :: ns)
    rw [List.map_cons] at e
    rw [e]
    exact hu
  have fin : ∀ (v : Value) (h' : Heap) (tk : Nat) (bs : List Addr), Reads h' v (PySem.W.maxD (.int n) (ns.map PyData.int)) bs → (∀ b o, s.heap.get? b = some o → h'.get? b = some o) → EP X pins σ Q v { s with heap := h', toks := tk } := fun v h' tk bs rd hk => by
    rw [PySem.W.maxD_ints] at rd
    cases rd
    exact ⟨.int _, H, I.kept hk, ⟨_, rfl⟩, q⟩
  rcases hq with hq | hq
  · obtain ⟨its, rv, pl, hz⟩ := I.list hq
    obtain ⟨as, rd⟩ := reads_ints (h := s.heap) (n :: ns) its rv
    exact PySem.W.max_list_data (I.ok.hd hc) pl.isList (by simpa using rd) (alike_ints (n :: ns)) room fun i v h' tk bs _ r hk => fin v h' tk bs r hk
  · obtain ⟨its, rv, pl, hz⟩ := I.tuple hq
    obtain ⟨as, rd⟩ := reads_ints (h := s.heap) (n :: ns) its rv
    exact PySem.W.max_tuple_data (I.ok.hd hc) (show s.heap.IsTuple a its.toArray from pl) (by simpa using rd) (alike_ints (n :: ns)) room fun i v h' tk bs _ r hk => fin v h' tk bs r hk

/-! two tuples that are not empty: the new one is known as it is -/
def rCatF (K : PySem.W.Frag) : R2 := fun x y H Q => ∃ a b xs ys, x = .ref a ∧ y = .ref b ∧ SqT K H a xs ∧ SqT K H b ys ∧ xs ≠ [] ∧ ys ≠ [] ∧ xs.length + ys.length ≤ sizeLine ∧ ∀ (p : Addr) (o : Obj), o.dict = none → H p = none → Q (.ref p) (upd H p (.frz o (.tup (xs ++ ys))))
theorem op_catF : OpR X (binaryOp .Add) (rCatF X.K) := by
  intro pins s σ H x y v u Q I rx ry h
  obtain ⟨a, b, xs, ys, rfl, rfl, ha, hb, nx, ny, hz, q⟩ := h
  cases rx
  cases ry
  obtain ⟨its, r1, p1, _⟩ := I.tuple ha
  obtain ⟨its2, r2, p2, _⟩ := I.tuple hb
  refine HT.cat_tup p1 p2 (fun z => nx (r1.nil_iff.mp z)) (fun z => absurd (r2.nil_iff.mp z) ny) (fun _ => ?_) (by rw [← r1.length, ← r2.length]; exact hz)
  exact ⟨.ref s.heap.objs.size, _, inv_frz I (fun b o e => e) (by rw [List.length_append]; exact hz) (r1.append r2) s.toks, rfl, q _ _ rfl (I.hok.fresh (Nat.le_refl _))⟩

/-! a part of a list or a tuple -/
def rCut (K : PySem.W.Frag) : V → Option Int → Option Int → Hp → VK → Prop := fun x lo hi H Q => ∃ (a : Addr) (xs : List V), x = .ref a ∧ SeqLT K H a xs ∧
  (∀ H' p, (H' = H ∧ cutV xs lo hi = xs ∧ p = a) ∨ (H p = none ∧ (H' = upd H p (.lst (cutV xs lo hi)) ∨ H' = upd H p (.tup (cutV xs lo hi)))) → SeqLT K H' p (cutV xs lo hi) → Q (.ref p) H')
theorem sl_cut : SlR X (rCut X.K) := by
  intro pins s σ H x v vl vu lo hi sl Q I rx hs pl pu h
  obtain ⟨a, xs, rfl, hq, q⟩ := h
  rcases hq with hq | hq
  · exact sl_list pins s σ H _ v vl vu lo hi sl Q I rx hs pl pu ⟨a, xs, rfl, hq, fun p hp => q _ p (.inr ⟨hp, .inl rfl⟩) (.inl (.inl (.inl upd_same)))⟩
  · refine sl_tupA pins s σ H _ v vl vu lo hi sl Q I rx hs pl pu ⟨a, xs, rfl, hq, fun e => ?_, fun _ p hp => q _ p (.inr ⟨hp, .inr rfl⟩) (.inr (.inl (.inl upd_same)))⟩
    have z : cutV xs lo hi = xs := by
      unfold cutV
      rw [e.1, e.2, List.drop_zero, Nat.sub_zero, List.take_length]
    exact q _ _ (.inl ⟨rfl, z, rfl⟩) (by rw [z]; exact .inr hq)
end
theorem Go.cut {T : Addr → Prop} {a p : Addr} {H H' : Hp} {xs zs : List V} (t : Tabs H T) (h : (H' = H ∧ zs = xs ∧ p = a) ∨ (H p = none ∧ (H' = upd H p (.lst zs) ∨ H' = upd H p (.tup zs)))) : Go T H H' := by
  rcases h with ⟨rfl, _⟩ | ⟨hp, rfl | rfl⟩
  · exact Go.refl t
  · exact Go.new t hp
  · exact Go.new t hp

end Lb

set_option Elab.async false
set_option linter.all false
set_option maxRecDepth 100000
set_option maxHeartbeats 4000000
namespace Lb
open PySem PySem.Spec PyProof.Rows L2

abbrev s_is_pair : Stmt := topS 15
abbrev s_check_corner : Stmt := topS 18
abbrev s_counted : Stmt := topS 21
theorem sc_is_pair : FnScope ["value", "low", "high"] ["value", "low", "high"] (defScope s_is_pair) := ⟨rfl, rfl, rfl, by decide +kernel, rfl, by decide +kernel, by decide +kernel⟩
theorem sc_check_corner : FnScope ["size", "corner"] ["size", "corner"] (defScope s_check_corner) := ⟨rfl, rfl, rfl, by decide +kernel, rfl, by decide +kernel, by decide +kernel⟩
theorem sc_counted : FnScope ["order", "corner", "thing"] ["order", "corner"] (defScope s_counted) := ⟨rfl, rfl, rfl, by decide +kernel, rfl, by decide +kernel, by decide +kernel⟩
theorem ty_tup {K : PySem.W.Frag} {H : Hp} {a : Addr} {xs : List V} (h : SqT K H a xs) : TyX K H (.ref a) (.type "tuple") := by
  rcases h with (h | ⟨o, h⟩) | ⟨o, _, _, h, hc, _⟩
  · exact .base (.tup h)
  · exact .fTuple h
  · exact .kTuple h hc
theorem cut_to (o : List Nat) (m : Nat) (h1 : m ≤ o.length) : cutV (vl o) none (some (m : Int)) = vl (o.take m) := by
  unfold cutV
  rw [HT.sIx_nat, HT.sIx_none, vl_len, Nat.min_eq_left h1, List.drop_zero, Nat.sub_zero]
  unfold vl
  rw [← List.map_take, ← List.map_take]
theorem take_take_succ {o : List Nat} {m j t : Nat} (h : (o.take m)[j]? = some t) (k : Nat) : (((o.take m).take (j + 1)).filter fun t => decide (k ≤ t)).length = (((o.take m).take j).filter fun t => decide (k ≤ t)).length + (if k ≤ t then 1 else 0) := by
  rw [take_snoc h, List.filter_append, List.length_append]
  congr 1
  rw [List.filter_cons, List.filter_nil]
  by_cases e : k ≤ t
  · rw [if_pos (decide_eq_true e), if_pos e]
    rfl
  · rw [if_neg (by rw [decide_eq_false e]; exact Bool.false_ne_true), if_neg e]
    rfl
section
variable {P : Program} {w : World} {K : PySem.W.Frag} {mg : Str → Option Value} {base : Heap} {T : Addr → Prop} {c fO fI : Addr} {fdO fdI : FuncData}
def spPair (K : PySem.W.Frag) (T : Addr → Prop) : Sp := fun vs H Q _ => ∃ (a : Addr) (l : List Nat) (lo hi : Int), vs = [.ref a, .int lo, .int hi] ∧ SqT K H a (vl l) ∧ l.length = 2 ∧ (∀ k ∈ l, lo ≤ (k : Int) ∧ (k : Int) ≤ hi) ∧ Tabs H T ∧ ∀ H', Go T H H' → Q (.bl true) H'
abbrev s_is_tuple_of : Stmt := topS 14
theorem sc_is_tuple_of : FnScope ["value", "size"] ["value", "size"] (defScope s_is_tuple_of) := ⟨rfl, rfl, rfl, by decide +kernel, rfl, by decide +kernel, by decide +kernel⟩
def spTof (K : PySem.W.Frag) : Sp := fun vs H Q _ => ∃ (a : Addr) (xs : List V), vs = [.ref a, .int (xs.length : Int)] ∧ SqT K H a xs ∧ Q (.bl true) H
theorem ok_is_tuple_of {f : Addr} {fd : FuncData} (F : Fun K "is_tuple_of" "is_tuple_of" s_is_tuple_of f fd) (B : Bl mg) : FnOk P w K mg base CX0 1 f fd ["value", "size"] (spTof K) := by
  refine F.ok sc_is_tuple_of (fun vs H Q E h => ?_) (fun cdv A outer s H vs Q E hr h => ?_)
  · obtain ⟨a, xs, rfl, _⟩ := h
    rfl
  · obtain ⟨a, xs, rfl, hs, q⟩ := h
    refine ⟨_, (pss_one (ps_ret (pe_and (pe_callB call_isi (by rfl) B.isinstance (by decide +kernel) (pa_cons (pv 0) (pa_cons (pe_bltn (v := .ty "tuple") (by rfl) B.tuple (by decide +kernel) rfl) pa_nil))) (pe_one (pe_cmpR op_eq (pe_callB call_len (by rfl) B.len PySem.boot_len (pa_cons (pv 0) pa_nil)) (pv 1) (nomark _)))))), ?_⟩
    refine ⟨.ref a, rfl, .ref a, .ty "tuple", _, _, true, rfl, .ty _, ty_tup hs, kit_ty (by decide +kernel), true, rfl, iteT ?_⟩
    have ll := lenV_seq (K := K) (.inr hs)
    refine ⟨.ref a, rfl, .ref a, xs.length, rfl, ll, .int (xs.length : Int), rfl, rfl, ?_⟩
    rw [decide_eq_true rfl]
    exact q
theorem ok_is_pair {f fT fA : Addr} {fd fdT fdA : FuncData} (F : Fun K "is_pair" "is_pair" s_is_pair f fd) (T_ : Df K mg "is_tuple_of" s_is_tuple_of ["value", "size"] fT fdT) (A_ : Df K mg "are_within_bounds" s_awb ["value", "low", "high"] fA fdA) (G : FnOk P w K mg base CX0 2 fA fdA ["value", "low", "high"] (spAwb K T)) (B : Bl mg) : FnOk P w K mg base CX0 3 f fd ["value", "low", "high"] (spPair K T) := by
  have G0 : FnOk P w K mg base CX0 2 fT fdT ["value", "size"] (spTof K) := (ok_is_tuple_of T_.fn B).mono (by decide)
  refine F.ok sc_is_pair (fun vs H Q E h => ?_) (fun cdv A outer s H vs Q E hr h => ?_)
  · obtain ⟨a, l, lo, hi, rfl, _⟩ := h
    rfl
  · obtain ⟨a, l, lo, hi, rfl, hs, l2, hb, ht, q⟩ := h
    refine ⟨_, pss_one (ps_ret (pe_and (pe_call G0 hr (by rfl) T_.at_ T_.fn.kp T_.bind .nil pass0 (pa_cons (pv 0) (pa_cons pe_int pa_nil)))
      (pe_one (pe_call G hr (by rfl) A_.at_ A_.fn.kp A_.bind .nil pass0 (pa_cons (pv 0) (pa_cons (pv 1) (pa_cons (pv 2) pa_nil))))))), ?_⟩
    have lv : (vl l).length = 2 := by rw [vl_len, l2]
    refine ⟨.ref a, rfl, a, vl l, by rw [lv]; rfl, hs, true, rfl, iteT ⟨.ref a, rfl, .int lo, rfl, .int hi, rfl, a, l, lo, hi, rfl, .inr hs, hb, ht, q⟩⟩
def spCorner (K : PySem.W.Frag) (T : Addr → Prop) : Sp := fun vs H Q _ => ∃ (a : Addr) (n m k : Nat), vs = [.int (n : Int), .ref a] ∧ SqT K H a (vl [m, k]) ∧ 1 ≤ m ∧ m ≤ n ∧ 1 ≤ k ∧ k ≤ n ∧ Tabs H T ∧ ∀ H', Go T H H' → Q .non H'
theorem ok_check_corner {f fP : Addr} {fd fdP : FuncData} (F : Fun K "check_corner" "check_corner" s_check_corner f fd) (P_ : Df K mg "is_pair" s_is_pair ["value", "low", "high"] fP fdP) (G : FnOk P w K mg base CX0 3 fP fdP ["value", "low", "high"] (spPair K T)) : FnOk P w K mg base CX0 4 f fd ["size", "corner"] (spCorner K T) := by
  refine F.ok sc_check_corner (fun vs H Q E h => ?_) (fun cdv A outer s H vs Q E hr h => ?_)
  · obtain ⟨a, n, m, k, rfl, _⟩ := h
    rfl
  · obtain ⟨a, n, m, k, rfl, hs, m1, m2, k1, k2, ht, q⟩ := h
    refine ⟨_, pss_one (ps_if (pt_not (pt_val (pe_call G hr (by rfl) P_.at_ P_.fn.kp P_.bind .nil pass0 (pa_cons (pv 1) (pa_cons pe_int (pa_cons (pv 0) pa_nil)))))) (pss_one ps_never) pss_nil), ?_⟩
    refine ⟨.ref a, rfl, .int (n : Int), rfl, a, [m, k], 1, n, rfl, hs, rfl, fun x hx => ?_, ht, fun H' g => ⟨true, rfl, iteF (q H' g)⟩⟩
    rcases List.mem_cons.mp hx with rfl | hx
    · exact ⟨by omega, by omega⟩
    · cases List.mem_singleton.mp hx
      exact ⟨by omega, by omega⟩
def Cc (K : PySem.W.Frag) (mg : Str → Option Value) (f : Addr) (fd : FuncData) : Prop := Df K mg "check_corner" s_check_corner ["size", "corner"] f fd
def spCnt (K : PySem.W.Frag) (T : Addr → Prop) : Sp := fun vs H Q _ => ∃ (a d : Addr) (o : List Nat) (m k : Nat), vs = [.ref a, .ref d] ∧ SeqLT K H a (vl o) ∧ IsOrd o ∧ SqT K H d (vl [m, k]) ∧ 1 ≤ m ∧ m ≤ o.length ∧ 1 ≤ k ∧ k ≤ o.length ∧ Tabs H T ∧ ∀ H', Go T H H' → Q (.int ((cc o m k : Nat) : Int)) H'
theorem ok_counted {f fC fD : Addr} {fd fdC fdD : FuncData} (F : Fun K "counted" "counted" s_counted f fd) (C : Cd K mg fC fdC) (O : Io K mg base T c fO fI fdO fdI) (D_ : Cc K mg fD fdD) (G2 : FnOk P w K mg base CX0 4 fD fdD ["size", "corner"] (spCorner K T)) : FnOk P w K mg base CX0 5 f fd ["order", "corner"] (spCnt K T) := by
  have G1 : FnOk P w K mg base CX0 4 fC fdC ["order"] (spChk K T) := (ok_check_order C.fn O).mono (by decide)
  refine F.ok sc_counted (fun vs H Q E h => ?_) (fun cdv A outer s H vs Q E hr h => ?_)
  · obtain ⟨a, d, o, m, k, rfl, _⟩ := h
    rfl
  · obtain ⟨a, d, o, m, k, rfl, ha, io, hd, m1, m2, k1, k2, ht, q⟩ := h
    have b9 := io.hi
    refine ⟨_, pss_cons (ps_expr (pe_call G1 hr (by rfl) C.at_ C.fn.kp C.bind .nil pass0 (pa_cons (pv 0) pa_nil)))
      (pss_cons (ps_expr (pe_call G2 hr (by rfl) D_.at_ D_.fn.kp D_.bind .nil pass0 (pa_cons (pe_callB call_len (by rfl) O.B.len PySem.boot_len (pa_cons (pv 0) pa_nil)) (pa_cons (pv 1) pa_nil))))
      (pss_one (ps_ret (pe_callB lenK (by rfl) O.B.len PySem.boot_len (pa_cons (pe_lc (own := [("thing", 2)]) (g := gName 2) (by rfl) sc_counted.nd (pi_seq (pe_slice sl_cut (pv 0) po_none (po_some (pe_ix (show IxR _ (rIx K) from ix_seq) (pv 1) pe_int (fun _ _ => rfl)))))
          (blkOk_by (by rfl)) (fun _ _ _ _ _ => pg_name (i := 2) sc_counted.nd rfl (Or.inl rfl)) (fun _ _ _ _ _ => pts_one (pt_cmpR op_ge (pv 2) (pe_ix (show IxR _ (rIx K) from ix_seq) (pv 1) pe_int (fun _ _ => rfl)) (nomark _))) (fun _ _ _ _ _ => pv 2)) pa_nil))))), ?_⟩
    refine ⟨.ref a, rfl, a, o, rfl, ha, io, ht, fun H1 g1 => ?_⟩
    have l1 := lenV_seq (K := K) (g1.lt ht ha)
    rw [vl_len] at l1
    refine ⟨.ref a, rfl, .ref a, _, rfl, l1, .ref d, rfl, d, o.length, m, k, rfl, g1.seqT ht hd, m1, m2, k1, k2, g1.1, fun H2 g2' => ?_⟩
    have g2 := g1.trans g2'
    refine ⟨.ref a, rfl, .ref d, rfl, ix_at (o := [m, k]) (i := 0) (.inr (g2.seqT ht hd)) (Nat.le_of_ble_eq_true rfl) rfl ⟨_, rfl, a, vl o, rfl, g2.lt ht ha, fun H3 p hc sq => ?_⟩⟩
    rw [show (((([m, k] : List Nat).getD 0 0 : Nat)) : Int) = (m : Int) from rfl, cut_to o m m2] at hc sq
    have g3' := Go.cut g2.1 hc
    have g3 := g2.trans g3'
    obtain ⟨bb, sqb⟩ := sq.sqB
    refine ⟨bb, p, rfl, ⟨_, sqb⟩, fun D2 hD2 => ?_⟩
    refine lc_seq (b := bb) (xs := vl (o.take m)) (fun j H4 => Go T H3 H4 ∧ ∃ us : List V, H4 D2 = some (.lst us) ∧ us.length = (((o.take m).take j).filter fun t => decide (k ≤ t)).length) ⟨Go.new g3.1 hD2, [], upd_same, rfl⟩ (fun j H4 _ z => z.1.sqB g3.1 sqb) (fun j x H4 hx z => ?_) (fun H4 z => ?_)
    · obtain ⟨g4, us, eD, eu⟩ := z
      obtain ⟨u, huj, rfl⟩ := vl_inv hx
      have st := take_take_succ huj k
      have cl : (((o.take m).take j).filter fun t => decide (k ≤ t)).length ≤ 9 := Nat.le_trans (List.length_filter_le _ _) (by rw [List.length_take, List.length_take]; omega)
      refine ⟨rfl, .int (u : Int), rfl, .ref d, rfl, ix_at (o := [m, k]) (i := 1) (.inr ((g3.trans g4).seqT ht hd)) (Nat.le_of_ble_eq_true rfl) rfl ⟨_, _, rfl, rfl, _, rfl, ?_⟩⟩
      rw [show (((([m, k] : List Nat).getD 1 0 : Nat)) : Int) = (k : Int) from rfl]
      by_cases hle : k ≤ u
      · rw [decide_eq_true (show (k : Int) ≤ (u : Int) by omega)]
        refine iteT ⟨.int (u : Int), rfl, us, eD, by rw [eu]; exact small9 (by omega), g4.put hD2 g3.1, _, upd_same, ?_⟩
        rw [List.length_append, eu, st, if_pos hle]
        rfl
      · rw [decide_eq_false (show ¬ (k : Int) ≤ (u : Int) by omega)]
        refine iteF ⟨g4, us, eD, ?_⟩
        rw [eu, st, if_neg hle]
        rfl
    · obtain ⟨g4, us, eD, eu⟩ := z
      rw [vl_len, List.take_length] at eu
      refine ⟨.ref D2, us.length, rfl, .inl ⟨us, SqL.of eD, rfl⟩, ?_⟩
      rw [eu]
      exact q _ (g3.trans g4)
end
end Lb

set_option Elab.async false
set_option linter.all false
set_option maxRecDepth 100000
set_option maxHeartbeats 2000000
namespace Lb
open PySem PySem.Spec PyProof.Rows L2

abbrev s_pot : Stmt := topS 28
abbrev s_draw : Stmt := topS 29
theorem sc_pot : FnScope ["_law_script", "_law_k", "_law_cell"] ["_law_script", "_law_k"] (defScope s_pot) := ⟨rfl, rfl, rfl, by decide +kernel, rfl, by decide +kernel, by decide +kernel⟩
theorem sc_draw : FnScope ["_law_pot_here", "_law_many", "_law_digit"] ["_law_pot_here", "_law_many"] (defScope s_draw) := ⟨rfl, rfl, rfl, by decide +kernel, rfl, by decide +kernel, by decide +kernel⟩

/-- the pot: what is left of a cell's own digits, and the last mixed number -/
def PotAt (H : Hp) (q : Addr) : Prop := ∃ x y : Int, H q = some (.lst [V.int x, V.int y]) ∧ 0 ≤ x ∧ 0 ≤ y ∧ y < 4294967296
/-- all as it was, but the table may have grown and the pot have changed -/
structure Gp (T : Addr → Prop) (q : Addr) (H H' : Hp) : Prop where
  tab : Tabs H' T
  pot : PotAt H' q
  old : ∀ b u, ¬ T b → b ≠ q → H b = some u → H' b = some u
theorem pot_ne {T : Addr → Prop} {q : Addr} {H : Hp} (h : Tabs H T) (p : PotAt H q) : ¬ T q := by
  obtain ⟨x, y, e, _⟩ := p
  exact ne_tab h e fun _ z => by cases z
theorem PotAt.go {T : Addr → Prop} {q : Addr} {H H' : Hp} (p : PotAt H q) (h : Tabs H T) (g : Go T H H') : PotAt H' q := by
  have n := pot_ne h p
  obtain ⟨x, y, e, r⟩ := p
  exact ⟨x, y, g.2 q _ n e, r⟩
theorem Gp.refl {T : Addr → Prop} {q : Addr} {H : Hp} (h : Tabs H T) (p : PotAt H q) : Gp T q H H := ⟨h, p, fun _ _ _ _ e => e⟩
theorem Go.gp {T : Addr → Prop} {q : Addr} {H H' : Hp} (g : Go T H H') (h : Tabs H T) (p : PotAt H q) : Gp T q H H' := ⟨g.1, p.go h g, fun b u n _ e => g.2 b u n e⟩
theorem Gp.trans {T : Addr → Prop} {q : Addr} {H H1 H2 : Hp} (a : Gp T q H H1) (b : Gp T q H1 H2) : Gp T q H H2 := ⟨b.tab, b.pot, fun c u n m e => b.old c u n m (a.old c u n m e)⟩
theorem Gp.then {T : Addr → Prop} {q : Addr} {H H1 H2 : Hp} (a : Gp T q H H1) (b : Go T H1 H2) : Gp T q H H2 := a.trans (b.gp a.tab a.pot)
theorem Gp.free {T : Addr → Prop} {q p : Addr} {H H' : Hp} (g : Gp T q H H') (n : H' p = none) : H p = none := by
  cases e : H p with
  | none => rfl
  | some u =>
    have nq : p ≠ q := fun z => by
      obtain ⟨x, y, e2, _⟩ := g.pot
      rw [z, e2] at n
      cases n
    have := g.old p u (tab_ne g.tab n) nq e
    rw [n] at this
    cases this
/-- a tuple of the kind that orders are stays where it is -/
theorem Gp.ordT {T : Addr → Prop} {q a : Addr} {H H' : Hp} {xs : List V} (g : Gp T q H H') (t : Tabs H T) (p : PotAt H q) (h : OrdK true H a xs) : OrdK true H' a xs := by
  obtain ⟨o, d, h⟩ := h
  obtain ⟨x, y, e, _⟩ := p
  exact ⟨o, d, g.old a _ (ne_tab t h fun _ z => by cases z) (ne_of h e fun z => by cases z) h⟩
/-- an order that is not the pot -/
theorem Gp.ord {T : Addr → Prop} {q a : Addr} {b : Bool} {H H' : Hp} {xs : List V} (g : Gp T q H H') (t : Tabs H T) (n : a ≠ q) (h : OrdK b H a xs) : OrdK b H' a xs := by
  cases b with
  | false => exact g.old a _ (ne_tab t h fun _ z => by cases z) n h
  | true =>
    obtain ⟨o, d, h⟩ := h
    exact ⟨o, d, g.old a _ (ne_tab t h fun _ z => by cases z) n h⟩

structure Bl2 (mg : Str → Option Value) : Prop where
  b : Bl mg
  abs : mg "abs" = none
  max : mg "max" = none
  min : mg "min" = none
  divmod : mg "divmod" = none
  enumerate : mg "enumerate" = none
  repr : mg "repr" = none

section
variable {P : Program} {w : World} {K : PySem.W.Frag} {mg : Str → Option Value} {base : Heap} {T : Addr → Prop}

def spPot (K : PySem.W.Frag) (T : Addr → Prop) : Sp := fun vs H Q _ => ∃ (a : Addr) (ns : List Int) (k : Nat), vs = [.ref a, .int (k : Int)] ∧ SqL K H a (ns.map V.int) ∧ ns.length ≤ 63 ∧ k ≤ 3 ∧ Tabs H T ∧ ∀ H' q, Go T H H' → H q = none → PotAt H' q → Q (.ref q) H'
theorem ok_pot {f : Addr} {fd : FuncData} (F : Fun K "_law_pot" "_law_pot" s_pot f fd) (B : Bl2 mg) : FnOk P w K mg base CX0 1 f fd ["_law_script", "_law_k"] (spPot K T) := by
  refine F.ok sc_pot (fun vs H Q E h => ?_) (fun cdv A outer s H vs Q E hr h => ?_)
  · obtain ⟨a, ns, k, rfl, _⟩ := h
    rfl
  · obtain ⟨a, ns, k, rfl, ha, hl, hk, ht, q⟩ := h
    refine ⟨_, pss_cons (ps_set (i := 2) sc_pot.nd rfl (.inl rfl) (pe_ifExp (pt_cmpR op_lt (pv 1) (pe_callB call_len_seq (by rfl) B.b.len PySem.boot_len (pa_cons (pv 0) pa_nil)) (nomark _)) (pe_callB call_abs (by rfl) B.abs (by decide +kernel) (pa_cons (pe_ix ix_list (pv 0) (pv 1) (fun _ _ => rfl)) pa_nil)) (pe_op op_add (pe_op op_mul pe_int (pv 1)) pe_int)))
      (pss_one (ps_ret (pe_lst (pa_cons (pe_callB (call_max2 rfl) (by rfl) B.max (by decide +kernel) (pa_cons pe_int (pa_cons (pe_op op_sub (pv 2) (pe_op op_pow pe_int pe_int)) pa_nil)))
        (pa_cons (pe_op op_add (pe_op op_mod (pe_callTy call_int1 (by rfl) B.b.int (by decide +kernel) (pa_cons (pe_op op_add (pe_op op_add (pe_op op_mul (pe_op op_mod (pe_callTy call_int1 (by rfl) B.b.int (by decide +kernel) (pa_cons (pv 2) pa_nil)) pe_int) pe_int) (pe_op op_mul pe_int (pv 1))) pe_int) pa_nil)) pe_int) pe_int) pa_nil))))), ?_⟩
    have fin : ∀ cell : Int, (∀ p, H p = none → Q (.ref p) (upd H p (.lst [.int (if cell - 1000000000000000000 > 0 then cell - 1000000000000000000 else 0), .int ((cell % 2147483549 * 48271 + 6011 * (k : Int) + 97) % 2147483579 + 1)]))) := fun cell p hp => by
      refine q _ p (Go.new ht hp) hp ⟨_, _, upd_same, ?_, ?_, ?_⟩
      · split <;> omega
      · omega
      · omega
    refine ⟨.int (k : Int), rfl, .ref a, rfl, a, _, rfl, .inl ha, _, _, rfl, rfl, _, rfl, ?_⟩
    refine ite2 (fun e => ?_) (fun e => ?_)
    · have hk2 : k < ns.length := by
        have z := of_decide_eq_true e
        rw [List.length_map] at z
        omega
      have e1 : (ns.map V.int)[k]? = some (.int ns[k]) := by
        rw [List.getElem?_map, List.getElem?_eq_getElem hk2]
        rfl
      refine ⟨.ref a, rfl, .int (k : Int), rfl, a, _, (k : Int), _, rfl, rfl, ha, atI_nat e1, _, rfl, ?_⟩
      generalize (if ns[k] < 0 then -ns[k] else ns[k]) = cell
      exact ⟨.int cell, rfl, _, _, rfl, rfl, ⟨by decide, by decide, by decide⟩, _, _, rfl, rfl, _, _, rfl, .int cell, rfl, .inl ⟨_, rfl, _, _, rfl, rfl, by show (0 : Int) < 2147483549; decide, _, _, rfl, rfl, .inl ⟨by omega, by omega⟩, .int (k : Int), rfl, _, _, rfl, rfl, .inl ⟨by decide, by decide⟩, _, _, rfl, rfl, _, _, rfl, rfl, .inl ⟨_, rfl, _, _, rfl, rfl, by show (0 : Int) < 2147483579; decide, _, _, rfl, rfl, by show 2 ≤ sizeLine; decide, fin _⟩⟩⟩
    · refine ⟨.int (k : Int), rfl, _, _, rfl, rfl, .inl ⟨by decide, by decide⟩, _, _, rfl, rfl, ?_⟩
      exact ⟨.int (89 * (k : Int) + 67), rfl, _, _, rfl, rfl, ⟨by decide, by decide, by decide⟩, _, _, rfl, rfl, _, _, rfl, .int (89 * (k : Int) + 67), rfl, .inl ⟨_, rfl, _, _, rfl, rfl, by show (0 : Int) < 2147483549; decide, _, _, rfl, rfl, .inl ⟨by omega, by omega⟩, .int (k : Int), rfl, _, _, rfl, rfl, .inl ⟨by decide, by decide⟩, _, _, rfl, rfl, _, _, rfl, rfl, .inl ⟨_, rfl, _, _, rfl, rfl, by show (0 : Int) < 2147483579; decide, _, _, rfl, rfl, by show 2 ≤ sizeLine; decide, fin _⟩⟩⟩


def spDraw (T : Addr → Prop) : Sp := fun vs H Q _ => ∃ (q : Addr) (n : Nat), vs = [.ref q, .int (n : Int)] ∧ 1 ≤ n ∧ n ≤ 100 ∧ PotAt H q ∧ Tabs H T ∧ ∀ H' (d : Nat), Gp T q H H' → d < n → Q (.int (d : Int)) H'
theorem set_pot {T : Addr → Prop} {q : Addr} {H : Hp} {x y : Int} {o : HO} (ht : Tabs H T) (p : PotAt H q) (h0 : 0 ≤ x) (h1 : 0 ≤ y) (h2 : y < 4294967296) (H' : Hp) (g : Gp T q H H') (e : o = .lst [V.int x, V.int y]) : Gp T q H (upd H' q o) := by
  have n := pot_ne ht p
  subst e
  refine ⟨?_, ⟨x, y, upd_same, h0, h1, h2⟩, fun b u n1 n2 e => by rw [upd_ne n2]; exact g.old b u n1 n2 e⟩
  exact g.tab.put n
theorem ok_draw {f : Addr} {fd : FuncData} (F : Fun K "_law_draw" "_law_draw" s_draw f fd) (B : Bl2 mg) : FnOk P w K mg base CX0 1 f fd ["_law_pot_here", "_law_many"] (spDraw T) := by
  refine F.ok sc_draw (fun vs H Q E h => ?_) (fun cdv A outer s H vs Q E hr h => ?_)
  · obtain ⟨q, n, rfl, _⟩ := h
    rfl
  · obtain ⟨q, n, rfl, h1, h2, pt, ht, k⟩ := h
    refine ⟨_, pss_cons (ps_if (pt_cmpR op_gt (pe_ix ix_list (pv 0) pe_int (fun _ _ => rfl)) pe_int (nomark _))
        (pss_cons (ps_asg (pe_callB call_divmod (by rfl) B.divmod (by decide +kernel) (pa_cons (pe_ix ix_list (pv 0) pe_int (fun _ _ => rfl)) (pa_cons (pv 1) pa_nil))) (pg_tup rfl (pgs_cons (pg_sub (pv 0) pe_int set_list) (pgs_cons (pg_name (i := 2) sc_draw.nd rfl (.inl rfl)) pgs_nil)))) (pss_one (ps_ret (pv 2)))) pss_nil)
      (pss_cons (ps_asg (pe_op op_mod (pe_callTy call_int1 (by rfl) B.b.int (by decide +kernel) (pa_cons (pe_op op_add (pe_op op_mul (pe_ix ix_list (pv 0) pe_int (fun _ _ => rfl)) pe_int) pe_int) pa_nil)) pe_int) (pg_sub (pv 0) pe_int set_list))
      (pss_one (ps_ret (pe_op op_mod (pe_callTy call_int1 (by rfl) B.b.int (by decide +kernel) (pa_cons (pe_op op_fdiv (pe_op op_mod (pe_callTy call_int1 (by rfl) B.b.int (by decide +kernel) (pa_cons (pe_op op_mul (pe_ix ix_list (pv 0) pe_int (fun _ _ => rfl)) (pe_ix ix_list (pv 0) pe_int (fun _ _ => rfl))) pa_nil)) pe_int) pe_int) pa_nil)) (pv 1))))), ?_⟩
    obtain ⟨x, y, e, x0, y0, yb⟩ := id pt
    have at0 : atI [V.int x, V.int y] 0 = some (.int x) := rfl
    have at1 : atI [V.int x, V.int y] 1 = some (.int y) := rfl
    refine ⟨.ref q, rfl, q, _, 0, _, rfl, rfl, SqL.of e, at0, _, _, rfl, rfl, _, rfl, ite2 (fun c => ?_) (fun c => ?_)⟩
    · refine ⟨.ref q, rfl, q, _, 0, _, rfl, rfl, SqL.of e, at0, .int (n : Int), rfl, x, (n : Int), rfl, ⟨by omega, by omega⟩, fun t hn => ?_⟩
      have nqt : q ≠ t := ne_of_none e hn
      refine ⟨t, _, rfl, SqT.of upd_same, rfl, _, _, rfl, ?_⟩
      refine ⟨.ref q, rfl, q, _, 0, 0, rfl, rfl, by rw [upd_ne nqt]; exact e, rfl, _, _, rfl, rfl, ?_⟩
      have m0 : 0 ≤ x % (n : Int) := Int.emod_nonneg _ (by omega)
      have m1 : x % (n : Int) < (n : Int) := Int.emod_lt_of_pos _ (by omega)
      have em : x % (n : Int) = (((x % (n : Int)).toNat : Nat) : Int) := by omega
      refine ⟨.int (x % (n : Int)), rfl, ?_⟩
      rw [em]
      refine k _ (x % (n : Int)).toNat (set_pot ht pt (Int.ediv_nonneg x0 (by omega)) y0 yb _ ((Go.new ht hn).gp ht pt) rfl) (by omega)
    · refine ⟨.ref q, rfl, q, _, 1, _, rfl, rfl, SqL.of e, at1, _, _, rfl, rfl, .inl ⟨by omega, by omega⟩, _, _, rfl, rfl, .inl ⟨_, rfl, _, _, rfl, rfl, by show (0 : Int) < 2147483629; decide, .ref q, rfl, q, _, 1, 1, rfl, rfl, e, rfl, ?_⟩⟩
      have y1 : 0 ≤ (y * 39373 + 911) % 2147483629 := by omega
      have y2 : (y * 39373 + 911) % 2147483629 < 4294967296 := by omega
      have g := set_pot ht pt x0 y1 y2 _ (Gp.refl ht pt) rfl
      have e' : (upd H q (.lst [V.int x, V.int ((y * 39373 + 911) % 2147483629)])) q = some (.lst [V.int x, V.int ((y * 39373 + 911) % 2147483629)]) := upd_same
      have at1' : atI [V.int x, V.int ((y * 39373 + 911) % 2147483629)] 1 = some (.int ((y * 39373 + 911) % 2147483629)) := rfl
      refine ⟨.ref q, rfl, q, _, 1, _, rfl, rfl, SqL.of e', at1', .ref q, rfl, q, _, 1, _, rfl, rfl, SqL.of e', at1', _, _, rfl, rfl, .inl ⟨by omega, by omega⟩, .inl ⟨_, rfl, _, _, rfl, rfl, by show (0 : Int) < 2147483587; decide, _, _, rfl, rfl, ⟨by decide, by decide⟩, .inl ⟨_, rfl, .int (n : Int), rfl, _, _, rfl, rfl, by show (0 : Int) < (n : Int); omega, ?_⟩⟩⟩
      generalize ((y * 39373 + 911) % 2147483629 * ((y * 39373 + 911) % 2147483629) % 2147483587 / 13) = z
      have m0 : 0 ≤ z % (n : Int) := Int.emod_nonneg _ (by omega)
      have m1 : z % (n : Int) < (n : Int) := Int.emod_lt_of_pos _ (by omega)
      have em : z % (n : Int) = (((z % (n : Int)).toNat : Nat) : Int) := by omega
      show Q (.int (z % (n : Int))) _
      rw [em]
      exact k _ (z % (n : Int)).toNat g (by omega)
end
end Lb

set_option Elab.async false
set_option linter.all false
set_option maxRecDepth 100000
set_option maxHeartbeats 4000000
namespace Lb
open PySem PySem.Spec PyProof.Rows L2

section
variable {X : Cx}
/-- tuple(range(a, b, c)) -/
def tTupR3 (ta : TA) : TE := fun σ H Q => ta σ H fun vs H1 => ∃ (i j c : Int) (n : Nat), vs = [.int i, .int j, .int c] ∧ RgC i j c n ∧ n ≤ 1000 ∧ ∀ (q : Addr) (o : Obj), o.dict = none → H1 q = none → Q (.ref q) (upd H1 q (.frz o (.tup ((List.range n).map fun k : Nat => V.int (i + (k : Int) * c)))))
theorem pe_tupR3 {a b c : Expr} {ta : TA} {p p' pos pos' : Pos} (hc : X.calm = true) (hg : Gl X "tuple") (hm : X.mg "tuple" = none) (hg' : Gl X "range") (hm' : X.mg "range" = none) (ha : PA X [a, b, c] ta)
    (na : starEach [.Call (.Name "range" p') [a, b, c] [] pos'] X.env = (false, eval (.Call (.Name "range" p') [a, b, c] [] pos') X.env) :: starEach [] X.env := by rfl)
    (hs : starEach [a, b, c] X.env = (false, eval a X.env) :: starEach [b, c] X.env := by rfl) (hpl : (backTo pos' (starEach [b, c] X.env)).any (·.1) = false := by rfl) :
    PE X (.Call (.Name "tuple" p) [.Call (.Name "range" p') [a, b, c] [] pos'] [] pos) (tTupR3 ta) := by
  refine ⟨fun pins s σ H Q I h => ?_⟩
  refine Call_ (ld_blt I hg hm boot_tuple (PyProof.Rows.callWith_type1 (args_cons (Call_ (ld_blt I hg' hm' boot_range (PyProof.Rows.callWith_type1 (thn (ha.run pos' pins s σ H _ I h) fun us s1 ⟨vs, H1, I1, r1, q1⟩ => ?_) hs hpl))) na) na))
  obtain ⟨i, j, k, n, e, ⟨c0, c1, c2, c3⟩, hn, q⟩ := q1
  subst e
  cases r1 with
  | cons r rr =>
    cases rr with
    | cons r' rr =>
      cases rr with
      | cons r'' rr =>
        cases rr
        obtain ⟨t, rfl⟩ := r
        obtain ⟨t', rfl⟩ := r'
        obtain ⟨t'', rfl⟩ := r''
        refine call_range_3 c0 ?_ (.inl (PyProof.noPylong_small c1))
        refine args_nil ?_
        have I2 : L2.Inv X pins σ H1 { s1 with heap := s1.heap.push { cls := .type "range", data := .fields #[.int i t, .int j t', .int k t''] } } := I1.kept (t' := s1.toks) fun b o e => Heap.get?_push_of_some _ e
        refine call_tuple_range (n := n) (I2.ok.hd hc) (IsRange.new ..) c2 c3 (by omega) fun h' tk acc hk hi => ?_
        have rv : Vals ((List.range n).map fun m : Nat => V.int (i + (m : Int) * k)) acc.toList := by
          have z := vals_of_get acc.toList (fun m : Nat => V.int (i + (m : Int) * k)) fun m u e => by
            obtain ⟨_, hi2⟩ := hi
            obtain ⟨tt, e2⟩ := hi2 m u (by simpa using e)
            exact ⟨tt, e2⟩
          have sz : acc.toList.length = n := by
            rw [Array.length_toList]
            exact hi.1
          rw [sz] at z
          exact z
        have I3 : L2.Inv X pins σ H1 { heap := h', gens := s1.gens, drawn := s1.drawn, toks := tk, os := s1.os } := I2.kept hk
        have z := inv_frz (xs := (List.range n).map fun m : Nat => V.int (i + (m : Int) * k)) (its := acc.toList) I2 hk (by rw [List.length_map, List.length_range, sizeLine_eq]; omega) rv tk
        rw [Array.toArray_toList] at z
        exact ⟨.ref h'.objs.size, _, z, rfl, q _ _ rfl (I3.hok.fresh (Nat.le_refl _))⟩
end
end Lb

set_option Elab.async false
set_option linter.all false
set_option maxRecDepth 100000
set_option maxHeartbeats 4000000
namespace Lb
open PySem PySem.Spec PyProof.Rows L2

/-- a def under its name, with its promise -/
structure Cn (P : Program) (w : World) (K : PySem.W.Frag) (mg : Str → Option Value) (base : Heap) (k : Nat) (x : Str) (ps : List Str) (sp : Sp) : Prop where
  ex : ∃ f fd, FnOk P w K mg base CX0 k f fd ps sp ∧ mg x = some (.ref f) ∧ PySem.W.keepIn K (.ref f) = true ∧ Binds K fd ps []
structure CnG (P : Program) (w : World) (K : PySem.W.Frag) (mg : Str → Option Value) (base : Heap) (k : Nat) (x : Str) (ps : List Str) (sp : Sp) : Prop where
  ex : ∃ f fd, FnG P w K mg base k f fd ps sp ∧ mg x = some (.ref f) ∧ PySem.W.keepIn K (.ref f) = true ∧ Binds K fd ps []
structure CnK (P : Program) (w : World) (K : PySem.W.Frag) (mg : Str → Option Value) (base : Heap) (k : Nat) (x : Str) (ps ks : List Str) (g : List Value → List Value → List Value) (gV : List V → List V → List V) (sp : Sp) : Prop where
  ex : ∃ f fd, FnOk P w K mg base CX0 k f fd ps sp ∧ mg x = some (.ref f) ∧ PySem.W.keepIn K (.ref f) = true ∧ KBinds K fd ps ks g gV
theorem Df.cn {P : Program} {w : World} {K : PySem.W.Frag} {mg : Str → Option Value} {base : Heap} {k : Nat} {x : Str} {st : Stmt} {ps : List Str} {f : Addr} {fd : FuncData} {sp : Sp} (D : Df K mg x st ps f fd) (h : FnOk P w K mg base CX0 k f fd ps sp) : Cn P w K mg base k x ps sp := ⟨_, _, h, D.at_, D.fn.kp, D.bind⟩
theorem Df.cnG {P : Program} {w : World} {K : PySem.W.Frag} {mg : Str → Option Value} {base : Heap} {k : Nat} {x : Str} {st : Stmt} {ps : List Str} {f : Addr} {fd : FuncData} {sp : Sp} (D : Df K mg x st ps f fd) (h : FnG P w K mg base k f fd ps sp) : CnG P w K mg base k x ps sp := ⟨_, _, h, D.at_, D.fn.kp, D.bind⟩
theorem Df.cnK {P : Program} {w : World} {K : PySem.W.Frag} {mg : Str → Option Value} {base : Heap} {k : Nat} {x : Str} {st : Stmt} {ps ks : List Str} {g : List Value → List Value → List Value} {gV : List V → List V → List V} {f : Addr} {fd : FuncData} {sp : Sp} (D : Df K mg x st ps f fd) (h : FnOk P w K mg base CX0 k f fd ps sp) (b : KBinds K fd ps ks g gV) : CnK P w K mg base k x ps ks g gV sp := ⟨_, _, h, D.at_, D.fn.kp, b⟩
section
variable {X : Cx} {k : Nat} {x : Str} {ps ks : List Str} {sp : Sp} {p pos : Pos} {e : Expr} {es : List Expr} {t : TA}
theorem pe_cn (C : Cn X.prog X.w X.K X.mg X.base k x ps sp) (hr : Room k X.A) (hg : Gl X x) (ha : PA X (e :: es) t)
    (hdb : (x == ("__debug__" : Str)) = false := by decide) (he : starEach (e :: es) X.env = (false, eval e X.env) :: starEach es X.env := by rfl) (hpl : (backTo pos (starEach es X.env)).any (·.1) = false := by rfl) :
    PE X (.Call (.Name x p) (e :: es) [] pos) (tCall sp [] E0 t) := by
  obtain ⟨f, fd, h1, h2, h3, h4⟩ := C.ex
  exact pe_call h1 hr hg h2 h3 h4 .nil pass0 ha hdb he hpl
theorem pe_cnG (C : CnG X.prog X.w X.K X.mg X.base k x ps sp) (hu : X.A.guards = some []) (hr : Room k X.A) (hg : Gl X x) (ha : PA X (e :: es) t)
    (hdb : (x == ("__debug__" : Str)) = false := by decide) (he : starEach (e :: es) X.env = (false, eval e X.env) :: starEach es X.env := by rfl) (hpl : (backTo pos (starEach es X.env)).any (·.1) = false := by rfl) :
    PE X (.Call (.Name x p) (e :: es) [] pos) (tCall sp [] E0 t) := by
  obtain ⟨f, fd, h1, h2, h3, h4⟩ := C.ex
  exact pe_callG h1 hu hr hg h2 h3 h4 ha hdb he hpl
theorem pe_cnK {kws : List Keyword} {tk : TA} {g : List Value → List Value → List Value} {gV : List V → List V → List V} (C : CnK X.prog X.w X.K X.mg X.base k x ps ks g gV sp) (hr : Room k X.A) (hg : Gl X x)
    (hkw : PK X kws tk) (hall : (backToKw pos (keywordEach kws X.env)).all (·.1.isSome) = true := by rfl) (hks : (backToKw pos (keywordEach kws X.env)).filterMap (·.1) = ks := by rfl)
    (hdb : (x == ("__debug__" : Str)) = false := by decide) (hpl : ((backTo pos (starEach [] X.env)).any (·.1) || (backToKw pos (keywordEach kws X.env)).any (·.1.isNone)) = false := by rfl) :
    PE X (.Call (.Name x p) [] kws pos) (tCallK sp gV E0 tNil tk) := by
  obtain ⟨f, fd, h1, h2, h3, h4⟩ := C.ex
  exact pe_callKW h1 hr hg h2 h3 h4 pass0 hkw hall hks hdb hpl
end
/-! keywords alone -/
def kw1 {α : Type} : List α → List α → List α
  | [], [a] => [a]
  | _, _ => []
def kw3 {α : Type} : List α → List α → List α
  | [], [a, b, c] => [c, b, a]
  | _, _ => []
theorem kw1_rel {vs : List V} {us : List Value} {zs : List V} {ws : List Value} (r : Vals vs us) (q : Vals zs ws) : Vals (kw1 vs zs) (kw1 us ws) := by
  cases r with
  | nil =>
    cases q with
    | nil => exact .nil
    | cons a t =>
      cases t with
      | nil => exact .cons a .nil
      | cons _ _ => exact .nil
  | cons _ _ => exact .nil
theorem kw3_rel {vs : List V} {us : List Value} {zs : List V} {ws : List Value} (r : Vals vs us) (q : Vals zs ws) : Vals (kw3 vs zs) (kw3 us ws) := by
  cases r with
  | nil =>
    cases q with
    | nil => exact .nil
    | cons a t =>
      cases t with
      | nil => exact .nil
      | cons b t =>
        cases t with
        | nil => exact .nil
        | cons c t =>
          cases t with
          | nil => exact .cons c (.cons b (.cons a .nil))
          | cons _ _ => exact .nil
  | cons _ _ => exact .nil
/-! data -/
def dO (b : Bool) (o : List Nat) : PyData := if b = true then .tuple (dl o) else .list (dl o)
theorem ord_dpB {K : PySem.W.Frag} {H : Hp} {b : Bool} {p : Addr} {x : List Nat} (a : OrdK b H p (vl x)) : Dp K H (.ref p) (dO b x) := by
  cases b with
  | false => exact .lst a.sqL (dp_vl x)
  | true => exact .tup a.sqT (dp_vl x)
theorem ord_dp {K : PySem.W.Frag} {H : Hp} {p : Addr} {x : List Nat} (a : OrdK true H p (vl x)) : Dp K H (.ref p) (.tuple (dl x)) := .tup a.sqT (dp_vl x)
theorem IsOrd.niceB {o : List Nat} (h : IsOrd o) (b : Bool) : Nice 2 4000 (dO b o) := by
  cases b with
  | false => exact h.nice.1.mono (by decide) (by decide)
  | true => exact h.nice.2.mono (by decide) (by decide)
theorem Nice.fit {n : Nat} {d : PyData} (h : Nice n 4000 d) : d.shown.length ≤ sizeLine := Nat.le_trans h.txt (by decide)
theorem ne_str {z : Str} {H : Hp} {Q : VK} (q : Q (.bl false) H) : rNe (.str z) (.str z) H Q := by
  refine ⟨rfl, ?_⟩
  rw [decide_eq_true rfl]
  exact q
theorem ne_data {K : PySem.W.Frag} {H : Hp} {Q : VK} {x y : V} {n m : Nat} {d : PyData} (a : Dp K H x d) (b : Dp K H y d) (h : Nice n m d) (hn : n ≤ 64) (q : Q (.bl false) H) : rNeD K x y H Q := by
  refine ⟨_, _, a, b, h.shaped hn, h.shaped hn, ?_⟩
  rw [h.refl]
  exact q
theorem eq_data {K : PySem.W.Frag} {H : Hp} {Q : VK} {x y : V} {n m : Nat} {d : PyData} (a : Dp K H x d) (b : Dp K H y d) (h : Nice n m d) (hn : n ≤ 64) (q : Q (.bl true) H) : rEqD K x y H Q := by
  refine ⟨_, _, a, b, h.shaped hn, h.shaped hn, ?_⟩
  rw [h.refl]
  exact q
theorem all_true : ∀ n : Nat, (List.replicate n true).all id = true
  | 0 => rfl
  | n + 1 => by
    rw [List.replicate_succ, List.all_cons, all_true n]
    rfl
def pairD (ps : List (Nat × Nat)) : List PyData := ps.map fun p => PyData.tuple [.int (p.1 : Int), .int (p.2 : Int)]
theorem pairs_dp {K : PySem.W.Frag} {H : Hp} : ∀ {ts : List Addr} {ps : List (Nat × Nat)}, PairsAt H ts ps → DpAll K H (ts.map V.ref) (pairD ps)
  | _, _, .nil => .nil
  | _, _, .cons r t => .cons (.tup (SqT.of r) (.cons (.int _) (.cons (.int _) .nil))) (pairs_dp t)
theorem nice_pairs {ps : List (Nat × Nat)} (h : ∀ p ∈ ps, p.1 < 100 ∧ p.2 < 100) (hl : ps.length ≤ 90) : Nice 2 4000 (.list (pairD ps)) := by
  refine (nice_list (n := 1) (m := 12) (ds := pairD ps) fun d hd => ?_).mono (by decide) (by unfold pairD; rw [List.length_map]; omega)
  obtain ⟨p, hp, rfl⟩ := List.mem_map.mp hd
  have := h p hp
  refine (nice_tup (n := 0) (m := 2) (ds := [.int (p.1 : Int), .int (p.2 : Int)]) fun x hx => ?_).mono (by decide) (by show (2 + 2) * 2 + 4 ≤ 12; decide)
  rcases List.mem_cons.mp hx with rfl | hx
  · exact nice_int this.1
  · cases List.mem_singleton.mp hx
    exact nice_int this.2
theorem nice_nums {l : List Nat} (h : ∀ k ∈ l, k < 100) (hl : l.length ≤ 100) : Nice 2 4000 (.list (dl l)) := (nice_ord h hl).1.mono (by decide) (by decide)
theorem lst_dp {K : PySem.W.Frag} {H : Hp} {p : Addr} {l : List Nat} (e : H p = some (.lst (vl l))) : Dp K H (.ref p) (.list (dl l)) := .lst (SqL.of e) (dp_vl l)

theorem nice_two {o : List Nat} (h : IsOrd o) : Nice 2 4000 (.list [.tuple (dl o), .tuple (dl o)]) :=
  (nice_list (n := 1) (m := 404) (ds := [.tuple (dl o), .tuple (dl o)]) fun d hd => by
    rcases List.mem_cons.mp hd with rfl | hd
    · exact h.nice.2
    · cases List.mem_singleton.mp hd
      exact h.nice.2).mono (by decide) (by show (404 + 2) * 2 + 4 ≤ 4000; decide)
theorem sum_cast : ∀ l : List Nat, (l.map fun k : Nat => (k : Int)).sum = ((l.sum : Nat) : Int)
  | [] => rfl
  | a :: r => by
    rw [List.map_cons, List.sum_cons, List.sum_cons, sum_cast r]
    omega
end Lb

set_option Elab.async false
set_option linter.all false
set_option maxRecDepth 100000
set_option maxHeartbeats 4000000
namespace Lb
open PySem PySem.Spec PyProof.Rows L2

abbrev s_pick : Stmt := topS 30
abbrev s_mixed : Stmt := topS 31
abbrev s_order : Stmt := topS 32
abbrev s_as : Stmt := topS 33
theorem sc_pick : FnScope ["_law_pot_here", "_law_some"] ["_law_pot_here", "_law_some"] (defScope s_pick) := ⟨rfl, rfl, rfl, by decide +kernel, rfl, by decide +kernel, by decide +kernel⟩
theorem sc_mixed : FnScope ["_law_pot_here", "_law_some", "_law_left", "_law_found", "_law_turn"] ["_law_pot_here", "_law_some"] (defScope s_mixed) := ⟨rfl, rfl, rfl, by decide +kernel, rfl, by decide +kernel, by decide +kernel⟩
theorem sc_order : FnScope ["_law_pot_here", "_law_size", "_law_way"] ["_law_pot_here", "_law_size"] (defScope s_order) := ⟨rfl, rfl, rfl, by decide +kernel, rfl, by decide +kernel, by decide +kernel⟩
theorem sc_as : FnScope ["_law_pot_here", "_law_order_here"] ["_law_pot_here", "_law_order_here"] (defScope s_as) := ⟨rfl, rfl, rfl, by decide +kernel, rfl, by decide +kernel, by decide +kernel⟩

theorem Gp.put {T : Addr → Prop} {q l : Addr} {H0 H : Hp} {o : HO} (g : Gp T q H0 H) (n : H0 l = none) (t : Tabs H0 T) (p : PotAt H0 q) : Gp T q H0 (upd H l o) := by
  have lT := tab_ne t n
  obtain ⟨x0, y0, e0, _⟩ := p
  have lq : l ≠ q := fun z => by
    rw [z, e0] at n
    cases n
  refine ⟨?_, ?_, fun b u n1 n2 e => by rw [upd_ne (ne_of_none e n)]; exact g.old b u n1 n2 e⟩
  · exact g.tab.put lT
  · obtain ⟨x, y, e, r⟩ := g.pot
    exact ⟨x, y, by rw [upd_ne lq.symm]; exact e, r⟩
theorem erase_perm : ∀ (l : List Nat) (k x : Nat), l[k]? = some x → (x :: l.eraseIdx k).Perm l
  | a :: r, 0, x, h => by
    have e : a = x := Option.some.inj h
    subst e
    exact List.Perm.refl _
  | a :: r, k + 1, x, h => by
    rw [List.eraseIdx_cons_succ]
    exact (List.Perm.swap a x _).trans ((erase_perm r k x h).cons a)
theorem vl_erase : ∀ (l : List Nat) (k : Nat), (vl l).eraseIdx k = vl (l.eraseIdx k)
  | [], _ => rfl
  | a :: r, 0 => rfl
  | a :: r, k + 1 => by
    show V.int (a : Int) :: (vl r).eraseIdx k = V.int (a : Int) :: vl (r.eraseIdx k)
    rw [vl_erase r k]
theorem seq_in {n j : Nat} (hj : j < n) : seqIndex? (j : Int) n = some j := (ixN_seq (ix_in hj)).1
theorem Gp.seqT {K : PySem.W.Frag} {T : Addr → Prop} {q a : Addr} {H H' : Hp} {xs : List V} (g : Gp T q H H') (t : Tabs H T) (p : PotAt H q) (h : SqT K H a xs) : SqT K H' a xs := by
  obtain ⟨x, y, e, _⟩ := p
  rcases h with (h | ⟨o, h⟩) | h
  · exact .inl (.inl (g.old a _ (ne_tab t h fun _ z => by cases z) (ne_of h e fun z => by cases z) h))
  · exact .inl (.inr ⟨o, g.old a _ (ne_tab t h fun _ z => by cases z) (ne_of h e fun z => by cases z) h⟩)
  · exact .inr h
theorem Gp.seqL {K : PySem.W.Frag} {T : Addr → Prop} {q a : Addr} {H H' : Hp} {xs : List V} (g : Gp T q H H') (t : Tabs H T) (n : a ≠ q) (h : SqL K H a xs) : SqL K H' a xs := by
  rcases h with (h | ⟨o, h⟩) | h
  · exact .inl (.inl (g.old a _ (ne_tab t h fun _ z => by cases z) n h))
  · exact .inl (.inr ⟨o, g.old a _ (ne_tab t h fun _ z => by cases z) n h⟩)
  · exact .inr h
theorem Gp.seqLT {K : PySem.W.Frag} {T : Addr → Prop} {q a : Addr} {H H' : Hp} {xs : List V} (g : Gp T q H H') (t : Tabs H T) (p : PotAt H q) (n : a ≠ q) (h : SeqLT K H a xs) : SeqLT K H' a xs := h.imp (g.seqL t n) (g.seqT t p)
theorem Gp.lst {T : Addr → Prop} {q a : Addr} {H H' : Hp} {xs : List V} (g : Gp T q H H') (t : Tabs H T) (n : a ≠ q) (e : H a = some (.lst xs)) : H' a = some (.lst xs) := g.old a _ (ne_tab t e fun _ z => by cases z) n e
theorem PotAt.ne {H : Hp} {q l : Addr} (p : PotAt H q) (n : H l = none) : l ≠ q := by
  obtain ⟨x, y, e, _⟩ := p
  exact none_ne n e
/-- the order that falls everywhere -/
def dn (n : Nat) : List Nat := (List.range n).map fun k => n - k
theorem len_dn (n : Nat) : (dn n).length = n := by
  unfold dn
  rw [List.length_map, List.length_range]
theorem dn_vl (n : Nat) : ((List.range n).map fun k : Nat => V.int ((n : Int) + (k : Int) * (-1))) = vl (dn n) := by
  unfold vl dn
  rw [List.map_map, List.map_map]
  refine List.map_congr_left fun k hk => ?_
  have := List.mem_range.mp hk
  show V.int ((n : Int) + (k : Int) * (-1)) = V.int (((n - k : Nat)) : Int)
  rw [show (n : Int) + (k : Int) * (-1) = ((n - k : Nat) : Int) by omega]
theorem dn_rev : ∀ n : Nat, dn n = (List.range' 1 n).reverse
  | 0 => rfl
  | n + 1 => by
    have e : List.range' 1 (n + 1) = List.range' 1 n ++ [n + 1] := by
      rw [List.range'_concat]
      congr 2
      omega
    rw [e, List.reverse_append, ← dn_rev n]
    unfold dn
    rw [List.range_succ_eq_map, List.map_cons, List.map_map]
    show (n + 1 - 0) :: _ = (n + 1) :: _
    congr 1
    refine List.map_congr_left fun k _ => ?_
    show n + 1 - (k + 1) = n - k
    omega
theorem ord_dn {n : Nat} (h1 : 1 ≤ n) (h9 : n ≤ 9) : IsOrd (dn n) := by
  refine ⟨by rw [len_dn]; exact h1, by rw [len_dn]; exact h9, ?_⟩
  rw [len_dn, dn_rev]
  exact List.reverse_perm _
theorem ord_up {n : Nat} (h1 : 1 ≤ n) (h9 : n ≤ 9) : IsOrd (List.range' 1 n) := ⟨by rw [List.length_range']; exact h1, by rw [List.length_range']; exact h9, by rw [List.length_range']⟩

section
variable {P : Program} {w : World} {K : PySem.W.Frag} {mg : Str → Option Value} {base : Heap} {T : Addr → Prop}
def Dd (K : PySem.W.Frag) (mg : Str → Option Value) (f : Addr) (fd : FuncData) : Prop := Df K mg "_law_draw" s_draw ["_law_pot_here", "_law_many"] f fd
def spPick (T : Addr → Prop) : Sp := fun vs H Q _ => ∃ (q L : Addr) (rs : List Addr), vs = [.ref q, .ref L] ∧ H L = some (.lst (rs.map V.ref)) ∧ 1 ≤ rs.length ∧ rs.length ≤ 100 ∧ L ≠ q ∧ PotAt H q ∧ Tabs H T ∧ ∀ H' r, Gp T q H H' → r ∈ rs → Q (.ref r) H'
theorem ok_pick {f fD : Addr} {fd fdD : FuncData} (F : Fun K "_law_pick" "_law_pick" s_pick f fd) (D : Dd K mg fD fdD) (B : Bl2 mg) : FnOk P w K mg base CX0 2 f fd ["_law_pot_here", "_law_some"] (spPick T) := by
  have G : FnOk P w K mg base CX0 1 fD fdD ["_law_pot_here", "_law_many"] (spDraw T) := ok_draw D.fn B
  refine F.ok sc_pick (fun vs H Q E h => ?_) (fun cdv A outer s H vs Q E hr h => ?_)
  · obtain ⟨q, L, rs, rfl, _⟩ := h
    rfl
  · obtain ⟨q, L, rs, rfl, eL, h1, h2, Lq, pt, ht, k⟩ := h
    refine ⟨_, pss_one (ps_ret (pe_ix ix_list (pv 1) (pe_call G hr (by rfl) D.at_ D.fn.kp D.bind .nil pass0 (pa_cons (pv 0) (pa_cons (pe_callB call_len (by rfl) B.b.len PySem.boot_len (pa_cons (pv 1) pa_nil)) pa_nil))) (fun _ _ => rfl))), ?_⟩
    refine ⟨.ref L, rfl, .ref q, rfl, .ref L, rfl, .ref L, rs.length, rfl, .inl ⟨_, SqL.of eL, (List.length_map _).symm⟩, q, rs.length, rfl, h1, h2, pt, ht, fun H' d g hd => ?_⟩
    have e' := g.lst ht Lq eL
    have hm : rs[d]? = some rs[d] := List.getElem?_eq_getElem hd
    refine ⟨L, _, (d : Int), .ref rs[d], rfl, rfl, SqL.of e', atI_nat (by rw [List.getElem?_map, hm]; rfl), k H' _ g (List.getElem_mem hd)⟩

def spMixed (K : PySem.W.Frag) (T : Addr → Prop) : Sp := fun vs H Q _ => ∃ (q a : Addr) (l : List Nat), vs = [.ref q, .ref a] ∧ SeqLT K H a (vl l) ∧ l.length ≤ 9 ∧ a ≠ q ∧ PotAt H q ∧ Tabs H T ∧ ∀ H' p m, Gp T q H H' → H p = none → H' p = some (.lst (vl m)) → m.Perm l → Q (.ref p) H'
theorem ok_mixed {f fD : Addr} {fd fdD : FuncData} (F : Fun K "_law_mixed" "_law_mixed" s_mixed f fd) (D : Dd K mg fD fdD) (B : Bl2 mg) : FnOk P w K mg base CX0 2 f fd ["_law_pot_here", "_law_some"] (spMixed K T) := by
  have G : FnOk P w K mg base CX0 1 fD fdD ["_law_pot_here", "_law_many"] (spDraw T) := ok_draw D.fn B
  refine F.ok sc_mixed (fun vs H Q E h => ?_) (fun cdv A outer s H vs Q E hr h => ?_)
  · obtain ⟨q, a, l, rfl, _⟩ := h
    rfl
  · obtain ⟨q, a, o, rfl, ha, h9, aq, pt, ht, k⟩ := h
    refine ⟨_, pss_cons (ps_par (i := 2) (j := 3) (by rfl) sc_mixed.nd rfl rfl (by decide) rfl rfl (pa_cons (pe_callTy call_list_of (by rfl) B.b.list (by decide +kernel) (pa_cons (pv 1) pa_nil)) (pa_cons (pe_lst pa_nil) pa_nil)) (by rfl))
      (pss_cons (ps_for PassesOwn.never rfl (pi_range1 (by rfl) B.b.range (pa_cons (pe_callB call_len (by rfl) B.b.len PySem.boot_len (pa_cons (pv 1) pa_nil)) pa_nil)) (pg_name (i := 4) sc_mixed.nd rfl (.inl rfl))
        (pss_one (ps_expr (pe_bm PySem.F.plainAttrs_list PySem.F.slot_list_append PySem.F.type_list_append mt_append (pv 3)
          (pa_cons (pe_bm PySem.F.plainAttrs_list PySem.F.slot_list_pop PySem.F.type_list_pop mt_popAt (pv 2) (pa_cons (pe_call G hr (by rfl) D.at_ D.fn.kp D.bind .nil pass0 (pa_cons (pv 0) (pa_cons (pe_callB call_len (by rfl) B.b.len PySem.boot_len (pa_cons (pv 2) pa_nil)) pa_nil))) pa_nil)) pa_nil)))))
      (pss_one (ps_ret (pv 3)))), ?_⟩
    refine ⟨.ref a, rfl, a, vl o, rfl, ha, fun l hl => ?_⟩
    refine ⟨Nat.zero_le _, fun g hg => ⟨_, _, rfl, ?_⟩⟩
    have lg : l ≠ g := ne_of_none upd_same hg
    have g0 : H g = none := by
      rw [upd_ne lg.symm] at hg
      exact hg
    have lq := pt.ne hl
    have gq := pt.ne g0
    have gp0 := ((Gp.refl ht pt).put (o := .lst (vl o)) hl ht pt).put (o := .lst []) g0 ht pt
    have ll := lenV_seq (K := K) (gp0.seqLT ht pt aq ha)
    rw [vl_len] at ll
    refine ⟨.ref a, rfl, .ref a, _, rfl, ll, (o.length : Int), rfl, by omega, by omega, ?_⟩
    refine for_range (lo := 0) (n := ((o.length : Int)).toNat) (fun i σ H2 => ∃ (lf ff : List Nat) (tv : Option V), σ = [some (.ref q), some (.ref a), some (.ref l), some (.ref g), tv] ∧ H2 l = some (.lst (vl lf)) ∧ H2 g = some (.lst (vl ff)) ∧ lf.length = o.length - i ∧ ff.length = i ∧ (ff ++ lf).Perm o ∧ Gp T q H H2)
      ⟨o, [], none, rfl, by rw [upd_ne lg, upd_same], by rw [upd_same]; rfl, by omega, rfl, List.Perm.refl _, gp0⟩ ?_ ?_
    · rintro i σ H2 hi ⟨lf, ff, tv, rfl, el, eg, nl, nf, hp, gp⟩
      have sl : SqL K H2 l (vl lf) := SqL.of el
      have sg : SqL K H2 g (vl ff) := SqL.of eg
      refine ⟨.ref g, rfl, .inl ⟨rfl, _, sg⟩, .ref l, rfl, .inl ⟨rfl, _, sl⟩, .ref q, rfl, .ref l, rfl, .ref l, lf.length, rfl, .inl ⟨_, sl, (vl_len lf).symm⟩, ?_⟩
      refine ⟨q, lf.length, rfl, by omega, by omega, gp.pot, gp.tab, fun H3 d g3 hd => ?_⟩
      have el3 : H3 l = some (.lst (vl lf)) := g3.old l _ (tab_ne ht hl) lq el
      have eg3 : H3 g = some (.lst (vl ff)) := g3.old g _ (tab_ne ht g0) gq eg
      refine ⟨l, vl lf, (d : Int), d, _, rfl, rfl, el3, by omega, by omega, by rw [vl_len]; exact seq_in hd, vl_get (getD_of hd), ?_⟩
      rw [vl_erase]
      refine ⟨g, vl ff, _, rfl, rfl, by rw [upd_ne lg.symm]; exact eg3, by rw [vl_len]; exact small9 (by omega), ?_⟩
      rw [vl_snoc]
      have perm : (ff ++ [lf.getD d 0] ++ lf.eraseIdx d).Perm o := by
        rw [List.append_assoc]
        exact ((erase_perm lf d _ (getD_of hd)).append_left ff).trans hp
      refine ⟨lf.eraseIdx d, ff ++ [lf.getD d 0], _, rfl, by rw [upd_ne lg, upd_same], upd_same, ?_, by rw [List.length_append, nf]; rfl, perm, ((gp.trans g3).put hl ht pt).put g0 ht pt⟩
      rw [List.length_eraseIdx_of_lt hd]
      omega
    · rintro σ H2 ⟨lf, ff, tv, rfl, el, eg, nl, nf, hp, gp⟩
      have e0 : lf = [] := List.length_eq_zero_iff.mp (by omega)
      rw [e0, List.append_nil] at hp
      exact ⟨.ref g, rfl, k _ g ff gp g0 eg hp⟩

def Dp_ (K : PySem.W.Frag) (mg : Str → Option Value) (f : Addr) (fd : FuncData) : Prop := Df K mg "_law_pick" s_pick ["_law_pot_here", "_law_some"] f fd
def Dm (K : PySem.W.Frag) (mg : Str → Option Value) (f : Addr) (fd : FuncData) : Prop := Df K mg "_law_mixed" s_mixed ["_law_pot_here", "_law_some"] f fd
def spOrder (K : PySem.W.Frag) (T : Addr → Prop) : Sp := fun vs H Q _ => ∃ (q : Addr) (n : Nat), vs = [.ref q, .int (n : Int)] ∧ 1 ≤ n ∧ n ≤ 9 ∧ PotAt H q ∧ Tabs H T ∧ ∀ H' p o, Gp T q H H' → SqT K H' p (vl o) → IsOrd o → o.length = n → Q (.ref p) H'
theorem ok_order {f : Addr} {fd : FuncData} (F : Fun K "_law_order" "_law_order" s_order f fd) (G : Cn P w K mg base 2 "_law_draw" ["_law_pot_here", "_law_many"] (spDraw T)) (G2 : Cn P w K mg base 2 "_law_pick" ["_law_pot_here", "_law_some"] (spPick T)) (G3 : Cn P w K mg base 2 "_law_mixed" ["_law_pot_here", "_law_some"] (spMixed K T)) (B : Bl2 mg) : FnOk P w K mg base CX0 3 f fd ["_law_pot_here", "_law_size"] (spOrder K T) := by
  refine F.ok sc_order (fun vs H Q E h => ?_) (fun cdv A outer s H vs Q E hr h => ?_)
  · obtain ⟨q, n, rfl, _⟩ := h
    rfl
  · obtain ⟨q, n, rfl, h1, h9, pt, ht, k⟩ := h
    refine ⟨_, (pss_cons (ps_set (i := 2) sc_order.nd rfl (Or.inl rfl) (pe_cn G hr (by rfl) (pa_cons (pv 0) (pa_cons pe_int pa_nil))))
      (pss_cons (ps_if (pt_cmpR op_eq (pv 2) pe_int (nomark _))
        (pss_one (ps_ret (pe_tupRF rfl (by rfl) B.b.tuple (prg_2 (by rfl) B.b.range pe_int (pe_op op_add (pv 1) pe_int))))) pss_nil)
      (pss_cons (ps_if (pt_cmpR op_eq (pv 2) pe_int (nomark _))
        (pss_one (ps_ret (pe_tupR3 rfl (by rfl) B.b.tuple (by rfl) B.b.range (pa_cons (pv 1) (pa_cons pe_int (pa_cons (pe_un un_neg pe_int) pa_nil)))))) pss_nil)
      (pss_cons (ps_if (PW.pt (pw_and (pt_cmpR op_lt (pv 2) pe_int (nomark _)) (pw_and1 (pt_cmpR op_eq (pv 1) pe_int (nomark _)))))
        (pss_one (ps_ret (pe_cn G2 hr (by rfl) (pa_cons (pv 0) (pa_cons (pe_lst (pa_cons (pe_tup (pa_cons pe_int (pa_cons pe_int (pa_cons pe_int (pa_cons pe_int pa_nil))))) (pa_cons (pe_tup (pa_cons pe_int (pa_cons pe_int (pa_cons pe_int (pa_cons pe_int pa_nil))))) pa_nil))) pa_nil))))) pss_nil)
      (pss_cons (ps_if (PW.pt (pw_and (pt_cmpR op_lt (pv 2) pe_int (nomark _)) (pw_and1 (pt_cmpR op_eq (pv 1) pe_int (nomark _)))))
        (pss_one (ps_ret (pe_cn G2 hr (by rfl) (pa_cons (pv 0) (pa_cons (pe_lst (pa_cons (pe_tup (pa_cons pe_int (pa_cons pe_int (pa_cons pe_int (pa_cons pe_int (pa_cons pe_int pa_nil)))))) (pa_cons (pe_tup (pa_cons pe_int (pa_cons pe_int (pa_cons pe_int (pa_cons pe_int (pa_cons pe_int pa_nil)))))) (pa_cons (pe_tup (pa_cons pe_int (pa_cons pe_int (pa_cons pe_int (pa_cons pe_int (pa_cons pe_int pa_nil)))))) (pa_cons (pe_tup (pa_cons pe_int (pa_cons pe_int (pa_cons pe_int (pa_cons pe_int (pa_cons pe_int pa_nil)))))) pa_nil))))) pa_nil))))) pss_nil)
      (pss_one (ps_ret (pe_tupF (by rfl) B.b.tuple (pe_cn G3 hr (by rfl) (pa_cons (pv 0) (pa_cons (pe_listRg rfl (by rfl) B.b.list (prg_2 (by rfl) B.b.range pe_int (pe_op op_add (pv 1) pe_int))) pa_nil))))))))))), ?_⟩
    refine ⟨.ref q, rfl, q, 9, rfl, by decide, by decide, pt, ht, fun H1 d c1 hd => ?_⟩
    have t1 := c1.tab
    have p1 := c1.pot
    refine ⟨.int (d : Int), rfl, rfl, _, rfl, ite2 (fun _ => ?_) (fun _ => ?_)⟩
    · refine ⟨.int (n : Int), rfl, _, 1, rfl, rfl, 1, (n : Int) + 1, rfl, rfl, RgOk.of_le (by omega) (by omega) (by omega) (by omega), fun t1 ob1 od1 hn1 => ?_⟩
      rw [rg_vl]
      exact k _ t1 _ (c1.then (Go.new c1.tab hn1)) (.inl (.inr ⟨ob1, upd_same⟩)) (ord_up h1 h9) List.length_range'
    refine ⟨.int (d : Int), rfl, rfl, _, rfl, ite2 (fun _ => ?_) (fun _ => ?_)⟩
    · refine ⟨.int (n : Int), rfl, 1, rfl, (n : Int), 0, -1, n, rfl, ?_, by omega, fun t2 ob2 od2 hn2 => ?_⟩
      · have z := RgC.neg (i := (n : Int)) (j := 0) (by omega) (by omega) (by omega) (by omega)
        rw [show ((n : Int) - 0).toNat = n by omega] at z
        exact z
      · rw [dn_vl]
        exact k _ t2 _ (c1.then (Go.new c1.tab hn2)) (.inl (.inr ⟨ob2, upd_same⟩)) (ord_dn h1 h9) (len_dn n)
    have lit : ∀ o ∈ [[4, 2, 3, 1], [3, 4, 1, 2], [3, 5, 1, 4, 2], [4, 2, 5, 1, 3], [4, 5, 3, 1, 2], [5, 2, 3, 4, 1]], o.Perm (List.range' 1 o.length) := by decide
    have io : ∀ o ∈ [[4, 2, 3, 1], [3, 4, 1, 2], [3, 5, 1, 4, 2], [4, 2, 5, 1, 3], [4, 5, 3, 1, 2], [5, 2, 3, 4, 1]], IsOrd o := fun o ho => ⟨(by decide : ∀ o ∈ [[4, 2, 3, 1], [3, 4, 1, 2], [3, 5, 1, 4, 2], [4, 2, 5, 1, 3], [4, 5, 3, 1, 2], [5, 2, 3, 4, 1]], 1 ≤ o.length) o ho, (by decide : ∀ o ∈ [[4, 2, 3, 1], [3, 4, 1, 2], [3, 5, 1, 4, 2], [4, 2, 5, 1, 3], [4, 5, 3, 1, 2], [5, 2, 3, 4, 1]], o.length ≤ 9) o ho, lit o ho⟩
    refine ⟨.int (d : Int), rfl, _, _, rfl, rfl, _, rfl, ?_⟩
    refine ite2 (fun _ => ⟨.int (n : Int), rfl, rfl, _, rfl, ite2 (fun e4 => ?_) (fun _ => ?_)⟩) (fun _ => iteF ?_)
    · have n4 : n = 4 := by
        have z := of_decide_eq_true e4
        injection z with z
        omega
      refine ⟨.ref q, rfl, by show 4 ≤ sizeLine; decide, fun x1 h1 => ⟨by show 4 ≤ sizeLine; decide, fun x2 h2 => ⟨by show 2 ≤ sizeLine; decide, fun L hL => ?_⟩⟩⟩
      have g1 := Go.new (o := .tup (vl [4, 2, 3, 1])) t1 h1
      have g2 := Go.new (o := .tup (vl [3, 4, 1, 2])) g1.1 h2
      have g3 := Go.new (o := .lst [V.ref x1, V.ref x2]) g2.1 hL
      have g := g1.trans (g2.trans g3)
      have m := c1.then g
      have L0 := g1.free (g2.free hL)
      have s1 := (g2.trans g3).seqT g1.1 (K := K) (xs := vl [4, 2, 3, 1]) (SqT.of upd_same)
      have s2 := g3.seqT g2.1 (K := K) (xs := vl [3, 4, 1, 2]) (SqT.of upd_same)
      refine ⟨q, L, [x1, x2], rfl, upd_same, Nat.le_of_ble_eq_true rfl, Nat.le_of_ble_eq_true rfl, p1.ne L0, m.pot, m.tab, fun H' r c hr => ?_⟩
      rcases List.mem_cons.mp hr with rfl | hr
      · exact k H' _ [4, 2, 3, 1] (m.trans c) (c.seqT m.tab m.pot s1) (io _ (by decide)) n4.symm
      · cases List.mem_singleton.mp hr
        exact k H' _ [3, 4, 1, 2] (m.trans c) (c.seqT m.tab m.pot s2) (io _ (by decide)) n4.symm
    all_goals
      refine ⟨.int (d : Int), rfl, _, _, rfl, rfl, _, rfl, ?_⟩
      refine ite2 (fun _ => ⟨.int (n : Int), rfl, rfl, _, rfl, ite2 (fun e4 => ?_) (fun _ => ?_)⟩) (fun _ => iteF ?_)
      · have n4 : n = 5 := by
          have z := of_decide_eq_true e4
          injection z with z
          omega
        refine ⟨.ref q, rfl, by show 5 ≤ sizeLine; decide, fun x1 h1 => ⟨by show 5 ≤ sizeLine; decide, fun x2 h2 => ⟨by show 5 ≤ sizeLine; decide, fun x3 h3 => ⟨by show 5 ≤ sizeLine; decide, fun x4 h4 => ⟨by show 4 ≤ sizeLine; decide, fun L hL => ?_⟩⟩⟩⟩⟩
        have g1 := Go.new (o := .tup (vl [3, 5, 1, 4, 2])) t1 h1
        have g2 := Go.new (o := .tup (vl [4, 2, 5, 1, 3])) g1.1 h2
        have g3 := Go.new (o := .tup (vl [4, 5, 3, 1, 2])) g2.1 h3
        have g4 := Go.new (o := .tup (vl [5, 2, 3, 4, 1])) g3.1 h4
        have g5 := Go.new (o := .lst [V.ref x1, V.ref x2, V.ref x3, V.ref x4]) g4.1 hL
        have g := g1.trans (g2.trans (g3.trans (g4.trans g5)))
        have m := c1.then g
        have L0 := g1.free (g2.free (g3.free (g4.free hL)))
        have s1 := (g2.trans (g3.trans (g4.trans g5))).seqT g1.1 (K := K) (xs := vl [3, 5, 1, 4, 2]) (SqT.of upd_same)
        have s2 := (g3.trans (g4.trans g5)).seqT g2.1 (K := K) (xs := vl [4, 2, 5, 1, 3]) (SqT.of upd_same)
        have s3 := (g4.trans g5).seqT g3.1 (K := K) (xs := vl [4, 5, 3, 1, 2]) (SqT.of upd_same)
        have s4 := g5.seqT g4.1 (K := K) (xs := vl [5, 2, 3, 4, 1]) (SqT.of upd_same)
        refine ⟨q, L, [x1, x2, x3, x4], rfl, upd_same, Nat.le_of_ble_eq_true rfl, Nat.le_of_ble_eq_true rfl, p1.ne L0, m.pot, m.tab, fun H' r c hr => ?_⟩
        rcases List.mem_cons.mp hr with rfl | hr
        · exact k H' _ [3, 5, 1, 4, 2] (m.trans c) (c.seqT m.tab m.pot s1) (io _ (by decide)) n4.symm
        rcases List.mem_cons.mp hr with rfl | hr
        · exact k H' _ [4, 2, 5, 1, 3] (m.trans c) (c.seqT m.tab m.pot s2) (io _ (by decide)) n4.symm
        rcases List.mem_cons.mp hr with rfl | hr
        · exact k H' _ [4, 5, 3, 1, 2] (m.trans c) (c.seqT m.tab m.pot s3) (io _ (by decide)) n4.symm
        · cases List.mem_singleton.mp hr
          exact k H' _ [5, 2, 3, 4, 1] (m.trans c) (c.seqT m.tab m.pot s4) (io _ (by decide)) n4.symm
      all_goals
        refine ⟨.ref q, rfl, .int (n : Int), rfl, _, 1, rfl, rfl, 1, (n : Int) + 1, rfl, rfl, RgOk.of_le (by omega) (by omega) (by omega) (by omega), fun L hL => ?_⟩
        rw [rg_vl]
        have g1 := Go.new (o := .lst (vl (List.range' 1 n))) t1 hL
        have m := c1.then g1
        refine ⟨q, L, List.range' 1 n, rfl, .inl (SqL.of upd_same), by rw [List.length_range']; exact h9, p1.ne hL, m.pot, m.tab, fun H' p o c hp ep per => ?_⟩
        refine ⟨false, p, vl o, rfl, ep, fun z => (nomatch z), fun _ p2 ob hd hp2 => ?_⟩
        have len : o.length = n := by
          rw [per.length_eq, List.length_range']
        exact k _ p2 o ((m.trans c).then (Go.new c.tab hp2)) (.inl (.inr ⟨ob, upd_same⟩)) ⟨by omega, by omega, by rw [len]; exact per⟩ len

/-- _law_as: the order as a list or as the tuple that it is -/
def spAs (K : PySem.W.Frag) (T : Addr → Prop) : Sp := fun vs H Q _ => ∃ (q a : Addr) (o : List Nat), vs = [.ref q, .ref a] ∧ SqT K H a (vl o) ∧ PotAt H q ∧ Tabs H T ∧ ∀ H' p, Gp T q H H' → SeqLT K H' p (vl o) → (SqT K H' p (vl o) ∨ (p ≠ q ∧ H' p = some (.lst (vl o)))) → Q (.ref p) H'
theorem ok_as {f : Addr} {fd : FuncData} (F : Fun K "_law_as" "_law_as" s_as f fd) (G : Cn P w K mg base 2 "_law_draw" ["_law_pot_here", "_law_many"] (spDraw T)) (B : Bl2 mg) : FnOk P w K mg base CX0 3 f fd ["_law_pot_here", "_law_order_here"] (spAs K T) := by
  refine F.ok sc_as (fun vs H Q E h => ?_) (fun cdv A outer s H vs Q E hr h => ?_)
  · obtain ⟨q, a, o, rfl, _⟩ := h
    rfl
  · obtain ⟨q, a, o, rfl, ha, pt, ht, k⟩ := h
    refine ⟨_, (pss_one (ps_ret (pe_ifExp (pt_cmpR op_eq (pe_cn G hr (by rfl) (pa_cons (pv 0) (pa_cons pe_int pa_nil))) pe_int (nomark _)) (pe_callTy call_list_of (by rfl) B.b.list (by decide +kernel) (pa_cons (pv 1) pa_nil)) (pv 1)))), ?_⟩
    refine ⟨.ref q, rfl, q, 2, rfl, by decide, by decide, pt, ht, fun H1 d g hd => ?_⟩
    have a1 := g.seqT ht pt ha
    refine ⟨rfl, _, rfl, ite2 (fun _ => ?_) (fun _ => ?_)⟩
    · refine ⟨.ref a, rfl, a, vl o, rfl, .inr a1, fun l hl => ?_⟩
      exact k _ l (g.then (Go.new g.tab hl)) (.inl (SqL.of upd_same)) (.inr ⟨g.pot.ne hl, upd_same⟩)
    · exact ⟨.ref a, rfl, k _ a g (.inr a1) (.inl a1)⟩
end
end Lb

set_option Elab.async false
set_option linter.all false
set_option maxRecDepth 100000
set_option maxHeartbeats 2000000
namespace Lb

/-! ### orders as one-to-one maps of the places -/
theorem ext_at {a b : List Nat} (hl : a.length = b.length) (h : ∀ k, k < a.length → a.getD k 0 = b.getD k 0) : a = b := by
  refine List.ext_getElem? fun k => ?_
  by_cases hk : k < a.length
  · rw [getD_of hk, getD_of (by omega), h k hk]
  · rw [List.getElem?_eq_none (by omega), List.getElem?_eq_none (by omega)]
theorem perm_fits : ∀ (l m : List Nat), l.Nodup → (∀ x ∈ l, x ∈ m) → m.length ≤ l.length → l.Perm m
  | [], m, _, _, h => by
    have : m = [] := List.length_eq_zero_iff.mp (Nat.le_zero.mp h)
    rw [this]
  | x :: r, m, nd, hs, h => by
    obtain ⟨nx, ndr⟩ := List.nodup_cons.mp nd
    have hx := hs x (.head _)
    refine ((perm_fits r (m.erase x) ndr (fun y hy => ?_) ?_).cons x).trans (List.perm_cons_erase hx).symm
    · have ne : y ≠ x := fun z => nx (z ▸ hy)
      exact (List.mem_erase_of_ne ne).mpr (hs y (.tail _ hy))
    · rw [List.length_erase_of_mem hx]
      rw [List.length_cons] at h
      omega
theorem ord_of {l : List Nat} (h1 : 1 ≤ l.length) (h9 : l.length ≤ 9) (hs : ∀ k, k < l.length → 1 ≤ l.getD k 0 ∧ l.getD k 0 ≤ l.length) (inj : ∀ i j, i < l.length → j < l.length → l.getD i 0 = l.getD j 0 → i = j) : IsOrd l := by
  refine ⟨h1, h9, perm_fits _ _ ?_ (fun x hx => ?_) (by rw [List.length_range']; exact Nat.le_refl _)⟩
  · show List.Pairwise _ l
    refine List.pairwise_iff_getElem.mpr fun i j hi hj hij e => ?_
    have ei : l[i]? = l[j]? := by rw [List.getElem?_eq_getElem hi, List.getElem?_eq_getElem hj, e]
    rw [getD_of hi, getD_of hj] at ei
    have := inj i j hi hj (Option.some.inj ei)
    omega
  · obtain ⟨k, hk, e⟩ := List.getElem_of_mem hx
    have e2 : l.getD k 0 = x := by
      have := getD_of hk
      rw [List.getElem?_eq_getElem hk, e] at this
      exact (Option.some.inj this).symm
    have := hs k hk
    rw [e2] at this
    exact List.mem_range'.mpr ⟨x - 1, by omega, by omega⟩
theorem at_of {o : List Nat} {k x : Nat} (h : o[k]? = some x) : o.getD k 0 = x := by
  rw [List.getD_eq_getElem?_getD, h]
  rfl
section
variable {o : List Nat} (h : IsOrd o)
include h
theorem IsOrd.sm {k : Nat} (hk : k < o.length) : 1 ≤ o.getD k 0 ∧ o.getD k 0 ≤ o.length := h.small _ (List.mem_of_getElem? (getD_of hk))
theorem IsOrd.idx {k : Nat} (hk : k < o.length) : o.idxOf (o.getD k 0) = k := by
  obtain ⟨hi, e⟩ := List.getElem?_eq_some_iff.mp (getD_of hk)
  have nd : o.Nodup := h.perm.nodup_iff.mpr (List.nodup_range' ..)
  have z := nd.idxOf_getElem k hi
  rw [e] at z
  exact z
theorem IsOrd.idl {v : Nat} (h1 : 1 ≤ v) (h2 : v ≤ o.length) : o.idxOf v < o.length := List.idxOf_lt_length_iff.mpr (h.mem h1 h2)
theorem IsOrd.idv {v : Nat} (h1 : 1 ≤ v) (h2 : v ≤ o.length) : o.getD (o.idxOf v) 0 = v := by
  have hl := h.idl h1 h2
  exact at_of (by rw [List.getElem?_eq_getElem hl]; exact congrArg some (List.getElem_idxOf hl))
theorem IsOrd.inj {i j : Nat} (hi : i < o.length) (hj : j < o.length) (e : o.getD i 0 = o.getD j 0) : i = j := by rw [← h.idx hi, e, h.idx hj]
end
/-- the sorted order -/
def pl (n : Nat) : List Nat := List.range' 1 n
theorem len_pl (n : Nat) : (pl n).length = n := List.length_range'
theorem len_und (o : List Nat) : (und o).length = o.length := by
  unfold und
  rw [List.length_map, List.length_range']
theorem len_trn (o : List Nat) : (trn o).length = o.length := by
  unfold trn
  rw [List.length_map, List.length_reverse]
theorem len_beh (a b : List Nat) : (beh a b).length = b.length := by
  unfold beh
  rw [List.length_map]
theorem len_exch (o : List Nat) (i j : Nat) : (exch o i j).length = o.length := by
  unfold exch
  rw [List.length_set, List.length_set]
theorem at_pl {n k : Nat} (hk : k < n) : (pl n).getD k 0 = k + 1 := at_of (by
  unfold pl
  rw [List.getElem?_range' hk]
  show some (1 + 1 * k) = _
  rw [show 1 + 1 * k = k + 1 by omega])
theorem at_und {o : List Nat} {k : Nat} (hk : k < o.length) : (und o).getD k 0 = o.idxOf (k + 1) + 1 := at_of (by
  unfold und
  rw [List.getElem?_map, List.getElem?_range' hk]
  show some (o.idxOf (1 + 1 * k) + 1) = _
  rw [show 1 + 1 * k = k + 1 by omega])
theorem at_trn {o : List Nat} {k : Nat} (hk : k < o.length) : (trn o).getD k 0 = o.length + 1 - o.getD (o.length - 1 - k) 0 := at_of (by
  unfold trn
  rw [List.getElem?_map, List.getElem?_reverse hk, getD_of (by omega)]
  rfl)
theorem at_beh {a b : List Nat} {k : Nat} (hk : k < b.length) : (beh a b).getD k 0 = a.getD (b.getD k 0 - 1) 0 := at_of (by
  unfold beh
  rw [List.getElem?_map, getD_of hk]
  rfl)
theorem at_exch {o : List Nat} {i j k : Nat} (hi : i < o.length) (hj : j < o.length) (hk : k < o.length) : (exch o i j).getD k 0 = if k = j then o.getD i 0 else if k = i then o.getD j 0 else o.getD k 0 := by
  unfold exch
  by_cases e : k = j
  · rw [if_pos e, e]
    exact at_of (List.getElem?_set_self (by rw [List.length_set]; exact hj))
  · rw [if_neg e]
    by_cases e2 : k = i
    · rw [if_pos e2]
      subst e2
      exact at_of (by rw [List.getElem?_set_ne (Ne.symm e), List.getElem?_set_self hi])
    · rw [if_neg e2]
      exact at_of (by rw [List.getElem?_set_ne (Ne.symm e), List.getElem?_set_ne (Ne.symm e2), getD_of hk])
theorem ord_pl {n : Nat} (h1 : 1 ≤ n) (h9 : n ≤ 9) : IsOrd (pl n) := ⟨by rw [len_pl]; exact h1, by rw [len_pl]; exact h9, by rw [len_pl]; exact List.Perm.refl _⟩
section
variable {o : List Nat} (h : IsOrd o)
include h
theorem ord_und : IsOrd (und o) := by
  refine ord_of (by rw [len_und]; exact h.lo) (by rw [len_und]; exact h.hi) (fun k hk => ?_) (fun i j hi hj e => ?_)
  · rw [len_und] at hk ⊢
    rw [at_und hk]
    have := h.idl (v := k + 1) (by omega) (by omega)
    omega
  · rw [len_und] at hi hj
    rw [at_und hi, at_und hj] at e
    have e1 := h.idv (v := i + 1) (by omega) (by omega)
    have e2 := h.idv (v := j + 1) (by omega) (by omega)
    rw [show o.idxOf (i + 1) = o.idxOf (j + 1) by omega] at e1
    omega
theorem ord_trn : IsOrd (trn o) := by
  refine ord_of (by rw [len_trn]; exact h.lo) (by rw [len_trn]; exact h.hi) (fun k hk => ?_) (fun i j hi hj e => ?_)
  · rw [len_trn] at hk ⊢
    rw [at_trn hk]
    have := h.sm (k := o.length - 1 - k) (by omega)
    omega
  · rw [len_trn] at hi hj
    rw [at_trn hi, at_trn hj] at e
    have e1 := h.sm (k := o.length - 1 - i) (by omega)
    have e2 := h.sm (k := o.length - 1 - j) (by omega)
    have := h.inj (i := o.length - 1 - i) (j := o.length - 1 - j) (by omega) (by omega) (by omega)
    omega
theorem und_at {k : Nat} (hk : k < o.length) : (und o).getD (o.getD k 0 - 1) 0 = k + 1 := by
  have := h.sm hk
  rw [at_und (by omega), show o.getD k 0 - 1 + 1 = o.getD k 0 by omega, h.idx hk]
theorem at_und_sub {k : Nat} (hk : k < o.length) : o.getD ((und o).getD k 0 - 1) 0 = k + 1 := by
  rw [at_und hk, Nat.add_sub_cancel]
  exact h.idv (by omega) (by omega)
theorem beh_und : beh o (und o) = pl o.length := by
  refine ext_at (by rw [len_beh, len_und, len_pl]) fun k hk => ?_
  rw [len_beh, len_und] at hk
  rw [at_beh (by rw [len_und]; exact hk), at_pl hk]
  exact at_und_sub h hk
theorem und_beh' : beh (und o) o = pl o.length := by
  refine ext_at (by rw [len_beh, len_pl]) fun k hk => ?_
  rw [len_beh] at hk
  rw [at_beh hk, at_pl hk]
  exact und_at h hk
theorem beh_pl : beh o (pl o.length) = o := by
  refine ext_at (by rw [len_beh, len_pl]) fun k hk => ?_
  rw [len_beh, len_pl] at hk
  rw [at_beh (by rw [len_pl]; exact hk), at_pl hk, Nat.add_sub_cancel]
theorem pl_beh : beh (pl o.length) o = o := by
  refine ext_at (len_beh _ _) fun k hk => ?_
  rw [len_beh] at hk
  have := h.sm hk
  rw [at_beh hk, at_pl (by omega)]
  omega
/-- what goes behind undone to k is the place of k -/
theorem und_is {p : List Nat} (hl : p.length = o.length) (hp : ∀ k, k < o.length → 1 ≤ p.getD k 0 ∧ p.getD k 0 ≤ o.length ∧ o.getD (p.getD k 0 - 1) 0 = k + 1) : und o = p := by
  refine ext_at (by rw [len_und, hl]) fun k hk => ?_
  rw [len_und] at hk
  obtain ⟨a, b, c⟩ := hp k hk
  have e := at_und_sub h hk
  have z := (ord_und h).sm (k := k) (by rw [len_und]; exact hk)
  rw [len_und] at z
  have := h.inj (i := (und o).getD k 0 - 1) (j := p.getD k 0 - 1) (by omega) (by omega) (by rw [e, c])
  omega
theorem und_und : und (und o) = o := by
  refine und_is (ord_und h) (by rw [len_und]) fun k hk => ?_
  rw [len_und] at hk ⊢
  have := h.sm hk
  exact ⟨this.1, this.2, und_at h hk⟩
theorem trn_trn : trn (trn o) = o := by
  refine ext_at (by rw [len_trn, len_trn]) fun k hk => ?_
  rw [len_trn, len_trn] at hk
  have := h.sm hk
  rw [at_trn (by rw [len_trn]; exact hk), len_trn, at_trn (by omega), show o.length - 1 - (o.length - 1 - k) = k by omega]
  omega
theorem und_trn : und (trn o) = trn (und o) := by
  refine und_is (ord_trn h) (by rw [len_trn, len_und, len_trn]) fun k hk => ?_
  rw [len_trn] at hk ⊢
  have u := (ord_und h).sm (k := o.length - 1 - k) (by rw [len_und]; omega)
  rw [len_und] at u
  rw [at_trn (o := und o) (by rw [len_und]; exact hk), len_und]
  refine ⟨by omega, by omega, ?_⟩
  rw [at_trn (by omega), show o.length - 1 - (o.length + 1 - (und o).getD (o.length - 1 - k) 0 - 1) = (und o).getD (o.length - 1 - k) 0 - 1 by omega, at_und_sub h (by omega)]
  omega
theorem ord_beh {p : List Nat} (hp : IsOrd p) (hl : o.length = p.length) : IsOrd (beh o p) := by
  refine ord_of (by rw [len_beh]; exact hp.lo) (by rw [len_beh]; exact hp.hi) (fun k hk => ?_) (fun i j hi hj e => ?_)
  · rw [len_beh] at hk ⊢
    rw [at_beh hk]
    have := hp.sm hk
    have := h.sm (k := p.getD k 0 - 1) (by omega)
    omega
  · rw [len_beh] at hi hj
    rw [at_beh hi, at_beh hj] at e
    have a1 := hp.sm hi
    have a2 := hp.sm hj
    have := h.inj (by omega) (by omega) e
    exact hp.inj hi hj (by omega)
theorem und_beh {p : List Nat} (hp : IsOrd p) (hl : o.length = p.length) : und (beh o p) = beh (und p) (und o) := by
  refine und_is (ord_beh h hp hl) (by rw [len_beh, len_beh, len_und, hl]) fun k hk => ?_
  rw [len_beh] at hk ⊢
  have u := (ord_und h).sm (k := k) (by rw [len_und]; omega)
  rw [len_und] at u
  have v := (ord_und hp).sm (k := (und o).getD k 0 - 1) (by rw [len_und]; omega)
  rw [len_und] at v
  rw [at_beh (b := und o) (by rw [len_und]; omega)]
  refine ⟨v.1, v.2, ?_⟩
  rw [at_beh (by omega), at_und_sub hp (by omega), Nat.add_sub_cancel]
  exact at_und_sub h (by omega)
theorem trn_beh {p : List Nat} (hp : IsOrd p) (hl : o.length = p.length) : trn (beh o p) = beh (trn o) (trn p) := by
  refine ext_at (by rw [len_trn, len_beh, len_beh, len_trn]) fun k hk => ?_
  rw [len_trn, len_beh] at hk
  have u := hp.sm (k := p.length - 1 - k) (by omega)
  rw [at_trn (by rw [len_beh]; exact hk), len_beh, at_beh (by omega), at_beh (by rw [len_trn]; exact hk), at_trn hk, at_trn (by omega), hl]
  rw [show p.length - 1 - (p.length + 1 - p.getD (p.length - 1 - k) 0 - 1) = p.getD (p.length - 1 - k) 0 - 1 by omega]
theorem ord_exch {i j : Nat} (hi : i < o.length) (hj : j < o.length) : IsOrd (exch o i j) := by
  refine ord_of (by rw [len_exch]; exact h.lo) (by rw [len_exch]; exact h.hi) (fun k hk => ?_) (fun a b ha hb e => ?_)
  · rw [len_exch] at hk ⊢
    rw [at_exch hi hj hk]
    have := h.sm hi
    have := h.sm hj
    have := h.sm hk
    split
    · assumption
    · split <;> assumption
  · rw [len_exch] at ha hb
    have e1 : ∀ k, (if k = j then o.getD i 0 else if k = i then o.getD j 0 else o.getD k 0) = o.getD (if k = j then i else if k = i then j else k) 0 := fun k => by
      split
      · rfl
      · split <;> rfl
    rw [at_exch hi hj ha, at_exch hi hj hb, e1, e1] at e
    have lt : ∀ k, k < o.length → (if k = j then i else if k = i then j else k) < o.length := fun k hk => by
      split
      · exact hi
      · split
        · exact hj
        · exact hk
    have z := h.inj (lt a ha) (lt b hb) e
    repeat' (split at z)
    all_goals omega
end
theorem beh_beh {a b c : List Nat} (hb : b.length = c.length) (hc : IsOrd c) : beh (beh a b) c = beh a (beh b c) := by
  refine ext_at (by rw [len_beh, len_beh, len_beh]) fun k hk => ?_
  rw [len_beh] at hk
  have := hc.sm hk
  rw [at_beh hk, at_beh (by omega), at_beh (by rw [len_beh]; exact hk), at_beh hk]
theorem beh_step {o : List Nat} {i j : Nat} (hi : i < o.length) (hj : j < o.length) : beh o (exch (pl o.length) i j) = exch o i j := by
  refine ext_at (by rw [len_beh, len_exch, len_exch, len_pl]) fun k hk => ?_
  rw [len_beh, len_exch, len_pl] at hk
  rw [at_beh (by rw [len_exch, len_pl]; exact hk), at_exch (by rw [len_pl]; exact hi) (by rw [len_pl]; exact hj) (by rw [len_pl]; exact hk), at_exch hi hj hk, at_pl hi, at_pl hj, at_pl hk]
  split
  · rw [Nat.add_sub_cancel]
  · split <;> rw [Nat.add_sub_cancel]
theorem at_step {n i j k : Nat} (hi : i < n) (hj : j < n) (hk : k < n) : (exch (pl n) i j).getD k 0 = if k = j then i + 1 else if k = i then j + 1 else k + 1 := by
  rw [at_exch (by rw [len_pl]; exact hi) (by rw [len_pl]; exact hj) (by rw [len_pl]; exact hk), at_pl hi, at_pl hj, at_pl hk]
theorem ord_step {n i j : Nat} (h1 : 1 ≤ n) (h9 : n ≤ 9) (hi : i < n) (hj : j < n) : IsOrd (exch (pl n) i j) := ord_exch (ord_pl h1 h9) (by rw [len_pl]; exact hi) (by rw [len_pl]; exact hj)
theorem und_step {n i j : Nat} (h1 : 1 ≤ n) (h9 : n ≤ 9) (hi : i < n) (hj : j < n) : und (exch (pl n) i j) = exch (pl n) i j := by
  refine und_is (ord_step h1 h9 hi hj) rfl fun k hk => ?_
  rw [len_exch, len_pl] at hk ⊢
  rw [at_step hi hj hk]
  split
  · refine ⟨by omega, by omega, ?_⟩
    rw [at_step hi hj (by omega)]
    split
    · omega
    · rw [if_pos (by omega)]
      omega
  · split
    · refine ⟨by omega, by omega, ?_⟩
      rw [at_step hi hj (by omega), if_pos (by omega)]
      omega
    · refine ⟨by omega, by omega, ?_⟩
      rw [at_step hi hj (by omega), if_neg (by omega), if_neg (by omega)]
      omega
theorem step_beh {o : List Nat} (h : IsOrd o) {i j : Nat} (hi : i < o.length) (hj : j < o.length) : beh (exch (pl o.length) i j) o = exch o (o.idxOf (i + 1)) (o.idxOf (j + 1)) := by
  have i1 := h.idl (v := i + 1) (by omega) (by omega)
  have j1 := h.idl (v := j + 1) (by omega) (by omega)
  have i2 := h.idv (v := i + 1) (by omega) (by omega)
  have j2 := h.idv (v := j + 1) (by omega) (by omega)
  refine ext_at (by rw [len_beh, len_exch]) fun k hk => ?_
  rw [len_beh] at hk
  have s := h.sm hk
  rw [at_beh hk, at_step hi hj (by omega), at_exch i1 j1 hk, i2, j2]
  by_cases e : k = o.idxOf (j + 1)
  · rw [if_pos e, if_pos (by rw [e, j2]; omega)]
  · have ne : o.getD k 0 ≠ j + 1 := fun z => e (by rw [← z, h.idx hk])
    rw [if_neg e, if_neg (by omega)]
    by_cases e2 : k = o.idxOf (i + 1)
    · rw [if_pos e2, if_pos (by rw [e2, i2]; omega)]
    · have ne2 : o.getD k 0 ≠ i + 1 := fun z => e2 (by rw [← z, h.idx hk])
      rw [if_neg e2, if_neg (by omega)]
      omega

/-! ### levels -/
def sm (l : List Nat) (f : Nat → Nat) : Nat := (l.map f).sum
theorem sm_nil (f : Nat → Nat) : sm [] f = 0 := rfl
theorem sm_cons (a : Nat) (l : List Nat) (f : Nat → Nat) : sm (a :: l) f = f a + sm l f := by
  unfold sm
  rw [List.map_cons, List.sum_cons]
theorem sm_perm {l m : List Nat} (f : Nat → Nat) (h : l.Perm m) : sm l f = sm m f := by
  induction h with
  | nil => rfl
  | cons x _ ih => rw [sm_cons, sm_cons, ih]
  | swap x y l => rw [sm_cons, sm_cons, sm_cons, sm_cons]; omega
  | trans _ _ h1 h2 => rw [h1, h2]
theorem sm_congr {l : List Nat} {f g : Nat → Nat} (h : ∀ x ∈ l, f x = g x) : sm l f = sm l g := by
  unfold sm
  rw [List.map_congr_left h]
theorem sm_map (l : List Nat) (s f : Nat → Nat) : sm (l.map s) f = sm l fun x => f (s x) := by
  unfold sm
  rw [List.map_map]
  rfl
theorem sm_append (l m : List Nat) (f : Nat → Nat) : sm (l ++ m) f = sm l f + sm m f := by
  unfold sm
  rw [List.map_append, List.sum_append]
theorem sm_add (l : List Nat) (f g : Nat → Nat) : (sm l fun x => f x + g x) = sm l f + sm l g := by
  induction l with
  | nil => rfl
  | cons a r ih => rw [sm_cons, sm_cons, sm_cons, ih]; omega
theorem sm_zero {l : List Nat} {f : Nat → Nat} (h : ∀ x ∈ l, f x = 0) : sm l f = 0 := by
  induction l with
  | nil => rfl
  | cons a r ih => rw [sm_cons, h a (.head _), ih fun x hx => h x (.tail _ hx)]
theorem sm_swap (l m : List Nat) (g : Nat → Nat → Nat) : (sm l fun i => sm m (g i)) = sm m fun j => sm l fun i => g i j := by
  induction l with
  | nil =>
    rw [sm_nil]
    exact (sm_zero fun _ _ => rfl).symm
  | cons a r ih =>
    rw [sm_cons, ih, ← sm_add]
    refine sm_congr fun j _ => ?_
    rw [sm_cons]
theorem len_flat (f : Nat → List (Nat × Nat)) (l : List Nat) : (l.flatMap f).length = sm l fun a => (f a).length := by
  induction l with
  | nil => rfl
  | cons a r ih => rw [List.flatMap_cons, List.length_append, sm_cons, ih]
theorem len_filter (l : List Nat) (p : Nat → Bool) : (l.filter p).length = sm l fun b => if p b = true then 1 else 0 := by
  induction l with
  | nil => rfl
  | cons a r ih =>
    rw [sm_cons, List.filter_cons]
    split
    · rw [List.length_cons, ih]; omega
    · rw [ih]; omega
/-- all pairs of places, told by which count -/
def al (n : Nat) (g : Nat → Nat → Bool) : Nat := sm (List.range n) fun i => sm (List.range n) fun j => if g i j = true then 1 else 0
theorem al_congr {n : Nat} {g f : Nat → Nat → Bool} (h : ∀ i j, i < n → j < n → g i j = f i j) : al n g = al n f :=
  sm_congr fun i hi => sm_congr fun j hj => by rw [h i j (List.mem_range.mp hi) (List.mem_range.mp hj)]
theorem al_swap (n : Nat) (g : Nat → Nat → Bool) : al n g = al n fun i j => g j i := sm_swap _ _ _
theorem al_perm {n : Nat} (s : Nat → Nat) (h : ((List.range n).map s).Perm (List.range n)) (g : Nat → Nat → Bool) : al n g = al n fun i j => g (s i) (s j) := by
  unfold al
  rw [← sm_perm _ h, sm_map]
  refine sm_congr fun i _ => ?_
  rw [← sm_perm _ h, sm_map]
theorem lev_al (o : List Nat) : lev o = al o.length fun i j => decide (i < j ∧ o.getD i 0 > o.getD j 0) := by
  unfold lev wps al
  rw [len_flat]
  refine sm_congr fun a ha => ?_
  have ha' := List.mem_range.mp ha
  unfold row
  rw [List.length_map, len_filter]
  have e : List.range o.length = List.range (a + 1) ++ (List.range (o.length - (a + 1))).map (a + 1 + ·) := by
    rw [← List.range_add, show a + 1 + (o.length - (a + 1)) = o.length by omega]
  have z0 : (sm (List.range (a + 1)) fun j => if decide (a < j ∧ o.getD a 0 > o.getD j 0) = true then 1 else 0) = 0 := sm_zero fun x hx => ?_
  · rw [e, sm_append, sm_map]
    show _ = (sm (List.range (a + 1)) fun j => if decide (a < j ∧ o.getD a 0 > o.getD j 0) = true then 1 else 0) + _
    rw [z0, Nat.zero_add]
    refine sm_congr fun b hb => ?_
    have e2 : decide (a < a + 1 + b ∧ o.getD a 0 > o.getD (a + 1 + b) 0) = decide (o.getD a 0 > o.getD (a + 1 + b) 0) := decide_eq_decide.mpr ⟨fun z => z.2, fun z => ⟨by omega, z⟩⟩
    show _ = if decide (a < a + 1 + b ∧ o.getD a 0 > o.getD (a + 1 + b) 0) = true then 1 else 0
    rw [e2]
  · have := List.mem_range.mp hx
    rw [decide_eq_false (by omega)]
    rfl
theorem perm_of {n : Nat} {s : Nat → Nat} (h1 : ∀ i, i < n → s i < n) (h2 : ∀ i j, i < n → j < n → s i = s j → i = j) : ((List.range n).map s).Perm (List.range n) := by
  refine perm_fits _ _ ?_ (fun x hx => ?_) (by rw [List.length_map]; exact Nat.le_refl _)
  · show List.Pairwise _ _
    rw [List.pairwise_map]
    refine List.Pairwise.imp_of_mem (R := (· < ·)) (fun {a b} ha hb hab e => ?_) List.pairwise_lt_range
    have := h2 a b (List.mem_range.mp ha) (List.mem_range.mp hb) e
    omega
  · obtain ⟨i, hi, rfl⟩ := List.mem_map.mp hx
    exact List.mem_range.mpr (h1 i (List.mem_range.mp hi))
theorem lev_und {o : List Nat} (h : IsOrd o) : lev (und o) = lev o := by
  rw [lev_al, lev_al, len_und, al_swap o.length fun i j => decide (i < j ∧ o.getD i 0 > o.getD j 0)]
  rw [al_perm (fun i => o.getD i 0 - 1) (perm_of (fun i hi => by have := h.sm hi; omega) fun i j hi hj e => by
    have := h.sm hi
    have := h.sm hj
    exact h.inj hi hj (by omega))]
  refine al_congr fun i j hi hj => ?_
  have a := h.sm hi
  have b := h.sm hj
  rw [und_at h hi, und_at h hj]
  exact decide_eq_decide.mpr ⟨fun z => ⟨by omega, by omega⟩, fun z => ⟨by omega, by omega⟩⟩
theorem lev_trn {o : List Nat} (h : IsOrd o) : lev (trn o) = lev o := by
  rw [lev_al, lev_al, len_trn, al_swap o.length fun i j => decide (i < j ∧ o.getD i 0 > o.getD j 0)]
  rw [al_perm (fun i => o.length - 1 - i) (perm_of (fun i hi => by omega) fun i j hi hj e => by omega)]
  refine al_congr fun i j hi hj => ?_
  have a := h.sm hi
  have b := h.sm hj
  rw [at_trn (by omega), at_trn (by omega), show o.length - 1 - (o.length - 1 - i) = i by omega, show o.length - 1 - (o.length - 1 - j) = j by omega]
  exact decide_eq_decide.mpr ⟨fun z => ⟨by omega, by omega⟩, fun z => ⟨by omega, by omega⟩⟩
end Lb

set_option Elab.async false
set_option linter.all false
set_option maxRecDepth 100000
set_option maxHeartbeats 4000000
namespace Lb
open PySem PySem.Spec PyProof.Rows L2

abbrev s_moved : Stmt := topS 34
theorem sc_moved : FnScope ["_law_order_here", "_law_first", "_law_second", "_law_found"] ["_law_order_here", "_law_first", "_law_second"] (defScope s_moved) := ⟨rfl, rfl, rfl, by decide +kernel, rfl, by decide +kernel, by decide +kernel⟩
abbrev s_lwrong : Stmt := topS 35
theorem sc_lwrong : FnScope ["_law_order_here", "_law_many", "_law_found", "_law_near", "_law_far"] ["_law_order_here"] (defScope s_lwrong) := ⟨rfl, rfl, rfl, by decide +kernel, rfl, by decide +kernel, by decide +kernel⟩
abbrev s_lcount : Stmt := topS 36
theorem sc_lcount : FnScope ["_law_order_here", "_law_corner", "_law_thing"] ["_law_order_here", "_law_corner"] (defScope s_lcount) := ⟨rfl, rfl, rfl, by decide +kernel, rfl, by decide +kernel, by decide +kernel⟩
abbrev s_lcorners : Stmt := topS 37
theorem sc_lcorners : FnScope ["_law_size", "_law_found", "_law_places", "_law_least"] ["_law_size"] (defScope s_lcorners) := ⟨rfl, rfl, rfl, by decide +kernel, rfl, by decide +kernel, by decide +kernel⟩
theorem Paired.app {α β : Type} {R : α → β → Prop} : ∀ {l : List α} {m : List β} {l2 : List α} {m2 : List β}, Paired R l m → Paired R l2 m2 → Paired R (l ++ l2) (m ++ m2)
  | _, _, _, _, .nil, q => q
  | _, _, _, _, .cons r t, q => .cons r (Paired.app t q)
theorem row_len9 {o : List Nat} {i j : Nat} (hj : j ≤ 9) : (row o i j).length ≤ 9 := Nat.le_trans (row_le o i j) hj
theorem wps_lt {o : List Nat} {q : Nat × Nat} (h : q ∈ wps o) : q.1 < o.length ∧ q.2 < o.length := by
  unfold wps at h
  obtain ⟨a, ha, hq⟩ := List.mem_flatMap.mp h
  unfold row at hq
  obtain ⟨b, hb, rfl⟩ := List.mem_map.mp hq
  have h1 := List.mem_range.mp ha
  have h2 := List.mem_range.mp (List.mem_filter.mp hb).1
  exact ⟨h1, by show a + 1 + b < o.length; omega⟩
section
variable {P : Program} {w : World} {K : PySem.W.Frag} {mg : Str → Option Value} {base : Heap} {T : Addr → Prop}
def spMoved (K : PySem.W.Frag) (T : Addr → Prop) : Sp := fun vs H Q _ => ∃ (a : Addr) (o : List Nat) (i j : Nat), vs = [.ref a, .int (i : Int), .int (j : Int)] ∧ SqT K H a (vl o) ∧ i < o.length ∧ j < o.length ∧ Tabs H T ∧ ∀ H' p, Go T H H' → H p = none → OrdK true H' p (vl (exch o i j)) → Q (.ref p) H'
theorem ok_moved {f : Addr} {fd : FuncData} (F : Fun K "_law_moved" "_law_moved" s_moved f fd) (B : Bl2 mg) : FnOk P w K mg base CX0 1 f fd ["_law_order_here", "_law_first", "_law_second"] (spMoved K T) := by
  refine F.ok sc_moved (fun vs H Q E h => ?_) (fun cdv A outer s H vs Q E hr h => ?_)
  · obtain ⟨a, o, i, j, rfl, _⟩ := h
    rfl
  · obtain ⟨a, o, i, j, rfl, ha, hi, hj, ht, q⟩ := h
    refine ⟨_, (pss_cons (ps_set (i := 3) sc_moved.nd rfl (Or.inl rfl) (pe_callTy call_list_of (by rfl) B.b.list (by decide +kernel) (pa_cons (pv 0) pa_nil)))
      (pss_cons (ps_asg (pe_tup (pa_cons (pe_ix (show IxR _ (rIx K) from ix_seq) (pv 0) (pv 2) (fun _ _ => rfl)) (pa_cons (pe_ix (show IxR _ (rIx K) from ix_seq) (pv 0) (pv 1) (fun _ _ => rfl)) pa_nil))) (pg_tup rfl (pgs_cons (pg_sub (pv 3) (pv 1) set_list) (pgs_cons (pg_sub (pv 3) (pv 2) set_list) pgs_nil))))
      (pss_one (ps_ret (pe_tupF (by rfl) B.b.tuple (pv 3)))))), ?_⟩
    refine ⟨.ref a, rfl, a, _, rfl, .inr ha, fun l hl => ?_⟩
    have g1 := Go.new (o := .lst (vl o)) ht hl
    have e1 : (upd H l (.lst (vl o))) l = some (.lst (vl o)) := upd_same
    have a1 := g1.seqT ht ha
    refine ⟨.ref a, rfl, .int (j : Int), rfl, ix_at (.inr a1) hj rfl ⟨.ref a, rfl, .int (i : Int), rfl, ix_at (.inr a1) hi rfl ⟨by show 2 ≤ sizeLine; decide, fun t hn => ?_⟩⟩⟩
    have nlt : l ≠ t := ne_of_none e1 hn
    refine ⟨t, _, rfl, SqT.of upd_same, rfl, _, _, rfl, ?_⟩
    have e2 : (upd (upd H l (.lst (vl o))) t (.tup [V.int (o.getD j 0 : Nat), V.int (o.getD i 0 : Nat)])) l = some (.lst (vl o)) := by
      rw [upd_ne nlt]
      exact e1
    refine ⟨.ref l, rfl, .int (i : Int), rfl, l, vl o, (i : Int), i, rfl, rfl, e2, ix_in (by rw [vl_len]; exact hi), _, _, rfl, .ref l, rfl, .int (j : Int), rfl, l, _, (j : Int), j, rfl, rfl, upd_same, ix_in (by rw [List.length_set, vl_len]; exact hj), rfl, ?_⟩
    rw [vl_set, vl_set]
    refine ⟨.ref l, rfl, false, l, vl (exch o i j), rfl, upd_same, fun z => (nomatch z), fun _ p ob hd hp => ?_⟩
    have g2 := g1.trans (Go.new (o := .tup [V.int (o.getD j 0 : Nat), V.int (o.getD i 0 : Nat)]) g1.1 hn)
    have nl0 : ∀ b u, H b = some u → b ≠ l := fun b u e z => by
      rw [z, hl] at e
      cases e
    have lT : ¬ T l := tab_ne ht hl
    have g3 : Go T H (upd (upd (upd (upd H l (.lst (vl o))) t (.tup [V.int (o.getD j 0 : Nat), V.int (o.getD i 0 : Nat)])) l (.lst (vl (o.set i (o.getD j 0))))) l (.lst (vl (exch o i j)))) := by
      refine ⟨?_, fun b u n e => ?_⟩
      · exact (g2.1.put lT).put lT
      · rw [upd_ne (nl0 b u e), upd_ne (nl0 b u e)]
        exact g2.2 b u n e
    exact q _ p (g3.trans (Go.new g3.1 hp)) (g3.free hp) ⟨ob, hd, upd_same⟩

def spLw (K : PySem.W.Frag) (T : Addr → Prop) : Sp := fun vs H Q _ => ∃ (a : Addr) (o : List Nat), vs = [.ref a] ∧ SeqLT K H a (vl o) ∧ o.length ≤ 9 ∧ Tabs H T ∧ ∀ H' p ts, Go T H H' → H p = none → H' p = some (.lst (ts.map V.ref)) → PairsAt H' ts (wps o) → Q (.ref p) H'
theorem ok_lwrong {f : Addr} {fd : FuncData} (F : Fun K "_law_wrong" "_law_wrong" s_lwrong f fd) (B : Bl2 mg) : FnOk P w K mg base CX0 1 f fd ["_law_order_here"] (spLw K T) := by
  refine F.ok sc_lwrong (fun vs H Q E h => ?_) (fun cdv A outer s H vs Q E hr h => ?_)
  · obtain ⟨a, o, rfl, _⟩ := h
    rfl
  · obtain ⟨a, o, rfl, ha, b9, ht, q⟩ := h
    refine ⟨_, (pss_cons (ps_set (i := 1) sc_lwrong.nd rfl (Or.inl rfl) (pe_callB call_len (by rfl) B.b.len PySem.boot_len (pa_cons (pv 0) pa_nil)))
      (pss_cons (ps_set (i := 2) sc_lwrong.nd rfl (Or.inl rfl) (pe_lst pa_nil))
      (pss_cons (ps_for PassesOwn.never rfl (pi_range1 (by rfl) B.b.range (pa_cons (pv 1) pa_nil)) (pg_name (i := 3) sc_lwrong.nd rfl (Or.inr rfl))
        (pss_one (ps_expr (pe_bm PySem.F.plainAttrs_list PySem.F.slot_list_extend PySem.F.type_list_extend mt_extend (pv 2) (pa_cons (pe_lc (own := [("_law_far", 4)]) (g := gName 4)  (by rfl) sc_lwrong.nd (pi_range2 (by rfl) B.b.range (pa_cons (pe_op op_add (pv 3) pe_int) (pa_cons (pv 1) pa_nil))) (blkOk_by (by rfl)) (fun _ _ _ _ _ => (pg_name (i := 4) sc_lwrong.nd rfl (Or.inl rfl))) (fun _ _ _ _ _ => (pts_one (pt_cmpR op_gt (pe_ix (show IxR _ (rIx K) from ix_seq) (pv 0) (pv 3) (fun _ _ => rfl)) (pe_ix (show IxR _ (rIx K) from ix_seq) (pv 0) (pv 4) (fun _ _ => rfl)) (nomark _)))) (fun _ _ _ _ _ => (pe_tup (pa_cons (pv 3) (pa_cons (pv 4) pa_nil))))) pa_nil)))))
      (pss_one (ps_ret (pv 2)))))), ?_⟩
    have l1 := lenV_seq (K := K) ha
    rw [vl_len] at l1
    refine ⟨.ref a, rfl, .ref a, _, rfl, l1, Nat.zero_le _, fun g hg => ?_⟩
    have g1 := Go.new (o := .lst []) ht hg
    refine ⟨.int (o.length : Int), rfl, (o.length : Int), rfl, by omega, by omega, ?_⟩
    refine for_range (lo := 0) (n := ((o.length : Int)).toNat) (fun i σ H2 => ∃ (tv : Option V), σ = [some (.ref a), some (.int (o.length : Int)), some (.ref g), tv, none] ∧ Go T H H2 ∧ ∃ ts : List Addr, H2 g = some (.lst (ts.map V.ref)) ∧ PairsAt H2 ts (wpTo o i 0))
      ⟨none, rfl, g1, [], upd_same, .nil⟩ ?_ ?_
    · rintro i σ H2 hi ⟨tv, rfl, g2, ts, e, el⟩
      have hi' : i < o.length := by omega
      have l2 := lenV_seq (K := K) (g2.lt ht ha)
      rw [vl_len] at l2
      refine ⟨.ref g, rfl, .inl ⟨rfl, _, SqL.of e⟩, .int (0 + (i : Int)), rfl, _, 1, rfl, rfl, .int (o.length : Int), rfl, _, _, rfl, ⟨by omega, by omega, by omega, by omega⟩, fun D hD => ?_⟩
      refine lc_range (lo := 0 + (i : Int) + 1) (n := ((o.length : Int) - (0 + (i : Int) + 1)).toNat) (fun j H3 => Go T H2 H3 ∧ ∃ us : List Addr, H3 D = some (.lst (us.map V.ref)) ∧ PairsAt H3 us (row o i j)) ⟨Go.new g2.1 hD, [], upd_same, .nil⟩ (fun j H3 hj m => ?_) (fun H3 m => ?_)
      · obtain ⟨g3, us, eD, eu⟩ := m
        have a3 := (g2.trans g3).lt ht ha
        have hp : i + 1 + j < o.length := by omega
        refine ⟨rfl, .ref a, rfl, .int (0 + (i : Int)), rfl, ix_at a3 hi' (by omega) ⟨.ref a, rfl, .int (0 + (i : Int) + 1 + (j : Int)), rfl, ix_at a3 hp (by omega) ⟨_, _, rfl, rfl, _, rfl, ?_⟩⟩⟩
        have lu := Paired.length eu
        by_cases hgt : o.getD i 0 > o.getD (i + 1 + j) 0
        · rw [decide_eq_true (show ((o.getD (i + 1 + j) 0 : Nat) : Int) < ((o.getD i 0 : Nat) : Int) by omega)]
          refine iteT ⟨.int (0 + (i : Int)), rfl, .int (0 + (i : Int) + 1 + (j : Int)), rfl, by show 2 ≤ sizeLine; decide, fun t hn => ?_⟩
          have b8 := row_len9 (o := o) (i := i) (j := j) (by omega)
          have nDt : D ≠ t := ne_of_none eD hn
          have eD2 : (upd H3 t (.tup [V.int (0 + (i : Int)), V.int (0 + (i : Int) + 1 + (j : Int))])) D = some (.lst (us.map V.ref)) := by rw [upd_ne nDt]; exact eD
          refine ⟨us.map V.ref, eD2, by rw [List.length_map, lu]; exact small9 (by omega), (g3.put (g3.free hn) g2.1).put hD g2.1, us ++ [t], ?_, ?_⟩
          · rw [upd_same, List.map_append]
            rfl
          · rw [row_more, if_pos hgt]
            refine Paired.snoc ((eu.new hn).up eD2) ?_
            show upd _ D _ t = some (.tup [V.int ((i : Nat) : Int), V.int ((i + 1 + j : Nat) : Int)])
            rw [upd_ne nDt.symm, upd_same, show (0 + (i : Int)) = ((i : Nat) : Int) by omega, show (((i : Nat) : Int) + 1 + (j : Int)) = ((i + 1 + j : Nat) : Int) by omega]
        · rw [decide_eq_false (show ¬ ((o.getD (i + 1 + j) 0 : Nat) : Int) < ((o.getD i 0 : Nat) : Int) by omega)]
          refine iteF ⟨g3, us, eD, ?_⟩
          rw [row_more, if_neg hgt, List.append_nil]
          exact eu
      · obtain ⟨g3, us, eD, eu⟩ := m
        have gT : ¬ T g := tab_ne ht hg
        have e3 : H3 g = some (.lst (ts.map V.ref)) := g3.2 g _ gT e
        have lu := Paired.length eu
        have lt := Paired.length el
        have b8 := row_len9 (o := o) (i := i) (j := ((o.length : Int) - (0 + (i : Int) + 1)).toNat) (by omega)
        have b7 := wpTo_le (o := o) (i := i) (j := 0) b9 (by omega) (by omega)
        refine ⟨g, D, ts.map V.ref, us.map V.ref, rfl, rfl, e3, eD, Nat.le_of_lt (small9 (by rw [List.length_map, List.length_map]; omega)), ?_⟩
        refine ⟨_, rfl, (g2.trans g3).put hg ht, ts ++ us, by rw [upd_same, List.map_append], ?_⟩
        rw [show ((o.length : Int) - (0 + (i : Int) + 1)).toNat = o.length - (i + 1) by omega] at eu
        rw [wpTo_next]
        have z := Paired.app ((el.go g2.1 g3).up (D := g) (u := .lst (ts.map V.ref ++ us.map V.ref)) e3) (eu.up (D := g) (u := .lst (ts.map V.ref ++ us.map V.ref)) e3)
        unfold wpTo at z ⊢
        rw [row_zero, List.append_nil] at z
        exact z
    · rintro σ H2 ⟨tv, rfl, g2, ts, e, el⟩
      rw [show ((o.length : Int)).toNat = o.length by omega, wpTo_end] at el
      exact ⟨.ref g, rfl, q H2 g ts g2 hg e el⟩

def spLcnt (K : PySem.W.Frag) (T : Addr → Prop) : Sp := fun vs H Q _ => ∃ (a d : Addr) (o : List Nat) (m k : Nat), vs = [.ref a, .ref d] ∧ SeqLT K H a (vl o) ∧ o.length ≤ 9 ∧ SqT K H d (vl [m, k]) ∧ m ≤ o.length ∧ Tabs H T ∧ ∀ H', Go T H H' → Q (.int ((cc o m k : Nat) : Int)) H'
theorem sum_ones : ∀ n : Nat, ((List.replicate n 1).map fun k : Nat => (k : Int)).sum = (n : Int)
  | 0 => rfl
  | n + 1 => by
    rw [List.replicate_succ, List.map_cons, List.sum_cons, sum_ones n]
    omega
theorem ok_lcount {f : Addr} {fd : FuncData} (F : Fun K "_law_count" "_law_count" s_lcount f fd) (B : Bl2 mg) (ms : mg "sum" = none) : FnOk P w K mg base CX0 1 f fd ["_law_order_here", "_law_corner"] (spLcnt K T) := by
  refine F.ok sc_lcount (fun vs H Q E h => ?_) (fun cdv A outer s H vs Q E hr h => ?_)
  · obtain ⟨a, d, o, m, k, rfl, _⟩ := h
    rfl
  · obtain ⟨a, d, o, m, k, rfl, ha, b9, hd, m2, ht, q⟩ := h
    refine ⟨_, (pss_one (ps_ret (pe_callB (cr_sum rfl) (by rfl) ms (by decide +kernel) (pa_cons (pe_lc (own := [("_law_thing", 2)]) (g := gName 2)  (by rfl) sc_lcount.nd (pi_seq (pe_slice sl_cut (pv 0) po_none (po_some (pe_ix (show IxR _ (rIx K) from ix_seq) (pv 1) pe_int (fun _ _ => rfl))))) (blkOk_by (by rfl)) (fun _ _ _ _ _ => (pg_name (i := 2) sc_lcount.nd rfl (Or.inl rfl))) (fun _ _ _ _ _ => (pts_one (pt_cmpR op_ge (pv 2) (pe_ix (show IxR _ (rIx K) from ix_seq) (pv 1) pe_int (fun _ _ => rfl)) (nomark _)))) (fun _ _ _ _ _ => pe_int)) pa_nil)))), ?_⟩
    refine ⟨.ref a, rfl, .ref d, rfl, ix_at (o := [m, k]) (i := 0) (.inr hd) (Nat.le_of_ble_eq_true rfl) rfl ⟨_, rfl, a, vl o, rfl, ha, fun H3 p hc sq => ?_⟩⟩
    rw [show (((([m, k] : List Nat).getD 0 0 : Nat)) : Int) = (m : Int) from rfl, cut_to o m m2] at hc sq
    have g3 := Go.cut ht hc
    obtain ⟨bb, sqb⟩ := sq.sqB
    refine ⟨bb, p, rfl, ⟨_, sqb⟩, fun D2 hD2 => ?_⟩
    refine lc_seq (b := bb) (xs := vl (o.take m)) (fun j H4 => Go T H3 H4 ∧ H4 D2 = some (.lst (vl (List.replicate (((o.take m).take j).filter fun t => decide (k ≤ t)).length 1)))) ⟨Go.new g3.1 hD2, upd_same⟩ (fun j H4 _ z => z.1.sqB g3.1 sqb) (fun j x H4 hx z => ?_) (fun H4 z => ?_)
    · obtain ⟨g4, eD⟩ := z
      obtain ⟨u, huj, rfl⟩ := vl_inv hx
      have st := take_take_succ huj k
      have cl : (((o.take m).take j).filter fun t => decide (k ≤ t)).length ≤ 9 := Nat.le_trans (List.length_filter_le _ _) (by rw [List.length_take, List.length_take]; omega)
      refine ⟨rfl, .int (u : Int), rfl, .ref d, rfl, ix_at (o := [m, k]) (i := 1) (.inr ((g3.trans g4).seqT ht hd)) (Nat.le_of_ble_eq_true rfl) rfl ⟨_, _, rfl, rfl, _, rfl, ?_⟩⟩
      rw [show (((([m, k] : List Nat).getD 1 0 : Nat)) : Int) = (k : Int) from rfl]
      by_cases hle : k ≤ u
      · rw [decide_eq_true (show (k : Int) ≤ (u : Int) by omega)]
        refine iteT ⟨_, eD, by rw [vl_len, List.length_replicate]; exact small9 (by omega), g4.put hD2 g3.1, ?_⟩
        rw [upd_same, show V.int 1 = V.int ((1 : Nat) : Int) from rfl, vl_snoc, st, if_pos hle, List.replicate_succ']
      · rw [decide_eq_false (show ¬ (k : Int) ≤ (u : Int) by omega)]
        refine iteF ⟨g4, ?_⟩
        rw [eD, st, if_neg hle]
        rfl
    · obtain ⟨g4, eD⟩ := z
      rw [vl_len, List.take_length] at eD
      refine ⟨D2, _, rfl, SqL.of eD, ?_⟩
      rw [sum_ones]
      exact q _ (g3.trans g4)

def spLcs (T : Addr → Prop) : Sp := fun vs H Q _ => ∃ n : Nat, vs = [.int (n : Int)] ∧ n ≤ 9 ∧ Tabs H T ∧ ∀ H' p ts, Go T H H' → H p = none → H' p = some (.lst (ts.map V.ref)) → PairsAt H' ts (acs n) → Q (.ref p) H'
theorem ok_lcorners {f : Addr} {fd : FuncData} (F : Fun K "_law_corners" "_law_corners" s_lcorners f fd) (B : Bl2 mg) : FnOk P w K mg base CX0 1 f fd ["_law_size"] (spLcs T) := by
  refine F.ok sc_lcorners (fun vs H Q E h => ?_) (fun cdv A outer s H vs Q E hr h => ?_)
  · obtain ⟨n, rfl, _⟩ := h
    rfl
  · obtain ⟨n, rfl, n9, ht, q⟩ := h
    refine ⟨_, (pss_cons (ps_set (i := 1) sc_lcorners.nd rfl (Or.inl rfl) (pe_lst pa_nil))
      (pss_cons (ps_for PassesOwn.never rfl (pi_range2 (by rfl) B.b.range (pa_cons pe_int (pa_cons (pe_op op_add (pv 0) pe_int) pa_nil))) (pg_name (i := 2) sc_lcorners.nd rfl (Or.inr rfl))
        (pss_one (ps_expr (pe_bm PySem.F.plainAttrs_list PySem.F.slot_list_extend PySem.F.type_list_extend mt_extend (pv 1) (pa_cons (pe_lc (own := [("_law_least", 3)]) (g := gName 3) (tt := tYes) (by rfl) sc_lcorners.nd (pi_range2 (by rfl) B.b.range (pa_cons pe_int (pa_cons (pe_op op_add (pv 0) pe_int) pa_nil))) (blkOk_by (by rfl)) (fun _ _ _ _ _ => (pg_name (i := 3) sc_lcorners.nd rfl (Or.inl rfl))) (fun _ _ _ _ _ => pts_nil) (fun _ _ _ _ _ => (pe_tup (pa_cons (pv 2) (pa_cons (pv 3) pa_nil))))) pa_nil)))))
      (pss_one (ps_ret (pv 1))))), ?_⟩
    refine ⟨Nat.zero_le _, fun g hg => ?_⟩
    have g1 := Go.new (o := .lst []) ht hg
    refine ⟨.int (n : Int), rfl, _, 1, rfl, rfl, _, _, rfl, ⟨by omega, by omega, by omega, by omega⟩, ?_⟩
    refine for_range (lo := 1) (n := ((n : Int) + 1 - 1).toNat) (fun i σ H2 => ∃ (tv : Option V), σ = [some (.int (n : Int)), some (.ref g), tv, none] ∧ Go T H H2 ∧ ∃ ts : List Addr, H2 g = some (.lst (ts.map V.ref)) ∧ PairsAt H2 ts (acTo n i 0))
      ⟨none, rfl, g1, [], upd_same, .nil⟩ ?_ ?_
    · rintro i σ H2 hi ⟨tv, rfl, g2, ts, e, el⟩
      have hi' : i < n := by omega
      refine ⟨.ref g, rfl, .inl ⟨rfl, _, SqL.of e⟩, .int (n : Int), rfl, _, 1, rfl, rfl, _, _, rfl, ⟨by omega, by omega, by omega, by omega⟩, fun D hD => ?_⟩
      refine lc_range (lo := 1) (n := ((n : Int) + 1 - 1).toNat) (fun j H3 => Go T H2 H3 ∧ ∃ us : List Addr, H3 D = some (.lst (us.map V.ref)) ∧ PairsAt H3 us ((List.range j).map fun b => (i + 1, b + 1))) ⟨Go.new g2.1 hD, [], upd_same, .nil⟩ (fun j H3 hj m => ?_) (fun H3 m => ?_)
      · obtain ⟨g3, us, eD, eu⟩ := m
        have lu := Paired.length eu
        rw [List.length_map, List.length_range] at lu
        refine ⟨rfl, .int (1 + (i : Int)), rfl, .int (1 + (j : Int)), rfl, by show 2 ≤ sizeLine; decide, fun t hn => ?_⟩
        have nDt : D ≠ t := ne_of_none eD hn
        have eD2 : (upd H3 t (.tup [V.int (1 + (i : Int)), V.int (1 + (j : Int))])) D = some (.lst (us.map V.ref)) := by rw [upd_ne nDt]; exact eD
        refine ⟨us.map V.ref, eD2, by rw [List.length_map, lu]; exact small9 (by omega), (g3.put (g3.free hn) g2.1).put hD g2.1, us ++ [t], ?_, ?_⟩
        · rw [upd_same, List.map_append]
          rfl
        · rw [List.range_succ, List.map_append]
          refine Paired.snoc ((eu.new hn).up eD2) ?_
          show upd _ D _ t = some (.tup [V.int ((i + 1 : Nat) : Int), V.int ((j + 1 : Nat) : Int)])
          rw [upd_ne nDt.symm, upd_same, show (1 + (i : Int)) = ((i + 1 : Nat) : Int) by omega, show (1 + (j : Int)) = ((j + 1 : Nat) : Int) by omega]
      · obtain ⟨g3, us, eD, eu⟩ := m
        have gT : ¬ T g := tab_ne ht hg
        have e3 : H3 g = some (.lst (ts.map V.ref)) := g3.2 g _ gT e
        have lu := Paired.length eu
        rw [List.length_map, List.length_range] at lu
        have lt := Paired.length el
        have b7 := acTo_le (n := n) (i := i) (j := 0) n9 (by omega) (by omega)
        refine ⟨g, D, ts.map V.ref, us.map V.ref, rfl, rfl, e3, eD, Nat.le_of_lt (small9 (by rw [List.length_map, List.length_map]; omega)), ?_⟩
        refine ⟨_, rfl, (g2.trans g3).put hg ht, ts ++ us, by rw [upd_same, List.map_append], ?_⟩
        rw [show ((n : Int) + 1 - 1).toNat = n by omega] at eu
        rw [acTo_next]
        have z := Paired.app ((el.go g2.1 g3).up (D := g) (u := .lst (ts.map V.ref ++ us.map V.ref)) e3) (eu.up (D := g) (u := .lst (ts.map V.ref ++ us.map V.ref)) e3)
        unfold acTo at z ⊢
        rw [List.range_zero, List.map_nil, List.append_nil] at z
        exact z
    · rintro σ H2 ⟨tv, rfl, g2, ts, e, el⟩
      rw [show ((n : Int) + 1 - 1).toNat = n by omega, acTo_end] at el
      exact ⟨.ref g, rfl, q H2 g ts g2 hg e el⟩
end
end Lb

set_option Elab.async false
set_option linter.all false
set_option maxRecDepth 100000
set_option maxHeartbeats 4000000
namespace Lb
open PySem PySem.Spec PyProof.Rows L2

abbrev s_ltable : Stmt := topS 38
theorem sc_ltable : FnScope ["_law_order_here", "_law_size", "_law_places", "_law_least"] ["_law_order_here"] (defScope s_ltable) := ⟨rfl, rfl, rfl, by decide +kernel, rfl, by decide +kernel, by decide +kernel⟩
abbrev s_lover : Stmt := topS 39
theorem sc_lover : FnScope ["_law_one", "_law_two", "_law_more", "_law_corner"] ["_law_one", "_law_two"] (defScope s_lover) := ⟨rfl, rfl, rfl, by decide +kernel, rfl, by decide +kernel, by decide +kernel⟩
theorem len_ctab (o : List Nat) : (ctab o).length = o.length := by
  unfold ctab
  rw [List.length_map, List.length_range]
theorem ctab_at {o : List Nat} {i : Nat} (hi : i < o.length) : (ctab o)[i]? = some (crow o (i + 1)) := by
  unfold ctab
  rw [List.getElem?_map, List.getElem?_range hi]
  rfl
theorem RowsAt.up {H : Hp} {ts : List Addr} {rs : List (List Nat)} {D : Addr} {u : HO} (h : RowsAt H ts rs) (n : ∀ t ∈ ts, t ≠ D) : RowsAt (upd H D u) ts rs := h.off n
section
variable {P : Program} {w : World} {K : PySem.W.Frag} {mg : Str → Option Value} {base : Heap} {T : Addr → Prop}
def spLtab (K : PySem.W.Frag) (T : Addr → Prop) : Sp := fun vs H Q _ => ∃ (a : Addr) (o : List Nat), vs = [.ref a] ∧ SeqLT K H a (vl o) ∧ o.length ≤ 9 ∧ Tabs H T ∧ ∀ H' p ts, Go T H H' → H p = none → H' p = some (.lst (ts.map V.ref)) → RowsAt H' ts (ctab o) → Q (.ref p) H'
theorem ok_ltable {f : Addr} {fd : FuncData} (F : Fun K "_law_table" "_law_table" s_ltable f fd) (G : Cn P w K mg base 1 "_law_count" ["_law_order_here", "_law_corner"] (spLcnt K T)) (B : Bl2 mg) : FnOk P w K mg base CX0 2 f fd ["_law_order_here"] (spLtab K T) := by
  refine F.ok sc_ltable (fun vs H Q E h => ?_) (fun cdv A outer s H vs Q E hr h => ?_)
  · obtain ⟨a, o, rfl, _⟩ := h
    rfl
  · obtain ⟨a, o, rfl, ha, b9, ht, q⟩ := h
    refine ⟨_, (pss_cons (ps_set (i := 1) sc_ltable.nd rfl (Or.inr rfl) (pe_callB call_len (by rfl) B.b.len PySem.boot_len (pa_cons (pv 0) pa_nil)))
      (pss_one (ps_ret (pe_lc (own := [("_law_places", 2)]) (g := gName 2) (tt := tYes) (by rfl) sc_ltable.nd (pi_range2 (by rfl) B.b.range (pa_cons pe_int (pa_cons (pe_op op_add (pv 1) pe_int) pa_nil))) (blkOk_by (by rfl)) (fun _ _ _ _ _ => (pg_name (i := 2) sc_ltable.nd rfl (Or.inr rfl))) (fun _ _ _ _ _ => pts_nil) (fun _ _ _ _ _ => (pe_lc (own := [("_law_least", 3)]) (g := gName 3) (tt := tYes) (by rfl) sc_ltable.nd (pi_range2 (by rfl) B.b.range (pa_cons pe_int (pa_cons (pe_op op_add (pv 1) pe_int) pa_nil))) (blkOk_by (by rfl)) (fun _ _ _ _ _ => (pg_name (i := 3) sc_ltable.nd rfl (Or.inl rfl))) (fun _ _ _ _ _ => pts_nil) (fun _ _ _ _ _ => (pe_cn G hr (by rfl) (pa_cons (pv 0) (pa_cons (pe_tup (pa_cons (pv 2) (pa_cons (pv 3) pa_nil))) pa_nil)))))))))), ?_⟩
    have l1 := lenV_seq (K := K) ha
    rw [vl_len] at l1
    refine ⟨.ref a, rfl, .ref a, _, rfl, l1, .int (o.length : Int), rfl, _, 1, rfl, rfl, _, _, rfl, ⟨by omega, by omega, by omega, by omega⟩, fun D hD => ?_⟩
    refine lc_range (lo := 1) (n := ((o.length : Int) + 1 - 1).toNat) (fun i H2 => Go T H H2 ∧ ∃ ts : List Addr, H2 D = some (.lst (ts.map V.ref)) ∧ (∀ t ∈ ts, t ≠ D) ∧ RowsAt H2 ts ((ctab o).take i)) ⟨Go.new ht hD, [], upd_same, fun _ h => (nomatch h), .nil⟩ (fun i H2 hi m => ?_) (fun H2 m => ?_)
    · obtain ⟨g2, ts, eD, nD, rows⟩ := m
      have hi' : i < o.length := by omega
      refine ⟨rfl, .int (o.length : Int), rfl, _, 1, rfl, rfl, _, _, rfl, ⟨by omega, by omega, by omega, by omega⟩, fun D2 hD2 => ?_⟩
      refine lc_range (lo := 1) (n := ((o.length : Int) + 1 - 1).toNat) (fun j H3 => Made T H2 D2 ((crow o (i + 1)).take j) H3) (Made.start g2.1 hD2) (fun j H3 hj m => ?_) (fun H3 m => ?_)
      · have hj' : j < o.length := by omega
        refine ⟨rfl, .ref a, rfl, .int (1 + (i : Int)), rfl, .int (1 + (j : Int)), rfl, by show 2 ≤ sizeLine; decide, fun t hn => ?_⟩
        have g3 := m.go hD2
        have g4 := Go.new (o := .tup [V.int (1 + (i : Int)), V.int (1 + (j : Int))]) m.1 hn
        refine ⟨a, t, o, i + 1, j + 1, rfl, (g2.trans (g3.trans g4)).lt ht ha, b9, SqT.of ?_, by omega, g4.1, fun H5 g5 => ?_⟩
        · rw [upd_same, show (1 + (i : Int)) = ((i + 1 : Nat) : Int) by omega, show (1 + (j : Int)) = ((j + 1 : Nat) : Int) by omega]
          rfl
        · have mo := m.more (k := cc o (i + 1) (j + 1)) hD2 g2.1 (g4.trans g5)
          refine ⟨_, mo.1, by rw [vl_len, List.length_take, len_crow]; exact small9 (by omega), ?_⟩
          rw [take_snoc (crow_at hj')]
          exact mo.2
      · have g3 := m.go hD2
        have eD2 : H3 D2 = some (.lst (vl (crow o (i + 1)))) := by
          have e := m.2.2
          rw [List.take_of_length_le (by rw [len_crow]; omega)] at e
          exact e
        have eD3 := g3.lst g2.1 eD
        have nDD : D2 ≠ D := none_ne hD2 eD
        have lts := Paired.length rows
        rw [List.length_take, len_ctab] at lts
        refine ⟨ts.map V.ref, eD3, by rw [List.length_map]; exact small9 (by omega), (g2.trans g3).put hD ht, ts ++ [D2], by rw [upd_same, List.map_append]; rfl, fun x hx => ?_, ?_⟩
        · rcases List.mem_append.mp hx with hx | hx
          · exact nD x hx
          · cases List.mem_singleton.mp hx
            exact nDD
        · rw [take_snoc (ctab_at hi')]
          exact Paired.snoc ((rows.go g2.1 g3).off nD) (by rw [upd_ne nDD]; exact eD2)
    · obtain ⟨g2, ts, eD, nD, rows⟩ := m
      rw [List.take_of_length_le (by rw [len_ctab]; omega)] at rows
      exact q H2 D ts g2 hD eD rows

def spLover (K : PySem.W.Frag) (T : Addr → Prop) : Sp := fun vs H Q _ => ∃ (a d : Addr) (o p : List Nat), vs = [.ref a, .ref d] ∧ SeqLT K H a (vl o) ∧ SeqLT K H d (vl p) ∧ o.length ≤ 9 ∧ o.length = p.length ∧ Tabs H T ∧
  (∀ H', Go T H H' → fstOver o p = none → Q .non H') ∧ ∀ H' t (m k : Nat), Go T H H' → H' t = some (.tup [V.int (m : Int), V.int (k : Int)]) → fstOver o p = some (m, k) → Q (.ref t) H'
theorem ok_lover {f : Addr} {fd : FuncData} (F : Fun K "_law_over" "_law_over" s_lover f fd) (G1 : Cn P w K mg base 1 "_law_corners" ["_law_size"] (spLcs T)) (G2 : Cn P w K mg base 1 "_law_count" ["_law_order_here", "_law_corner"] (spLcnt K T)) (B : Bl2 mg) : FnOk P w K mg base CX0 2 f fd ["_law_one", "_law_two"] (spLover K T) := by
  refine F.ok sc_lover (fun vs H Q E h => ?_) (fun cdv A outer s H vs Q E hr h => ?_)
  · obtain ⟨a, d, o, p, rfl, _⟩ := h
    rfl
  · obtain ⟨a, d, o, p, rfl, ha, hd, b9, el, ht, q1, q2⟩ := h
    have hun := hr.un
    have eu : (A.deeper (envOfC "_law_over" (defScope s_lover) s.heap.objs.size f cdv)).units = A.units + 3 := rfl
    have hu : A.units + 3 + 64 < cLine := by omega
    refine ⟨_, (pss_cons (ps_setLc (i := 2) (own := [("_law_corner", 3)]) (g := gName 3)  (by rfl) sc_lover.nd rfl rfl (by rfl) (pi_list (pe_cn G1 hr (by rfl) (pa_cons (pe_callB call_len (by rfl) B.b.len PySem.boot_len (pa_cons (pv 0) pa_nil)) pa_nil))) (blkOk_by (by rfl)) (fun _ _ _ _ _ => (pg_name (i := 3) sc_lover.nd rfl (Or.inl rfl))) (fun _ _ _ _ _ => (pts_one (pt_cmpR op_gt (pe_cn G2 hr (by rfl) (pa_cons (pv 0) (pa_cons (pv 3) pa_nil))) (pe_cn G2 hr (by rfl) (pa_cons (pv 1) (pa_cons (pv 3) pa_nil))) (nomark _)))) (fun _ _ _ _ _ => (pv 3)))
      (pss_one (ps_ret (pe_ifExp (pt_cmpR (op_neD hu) (pv 2) (pe_lst pa_nil) (nomark _)) (pe_ix ix_list (pv 2) pe_int (fun _ _ => rfl)) pe_non)))), ?_⟩
    have l1 := lenV_seq (K := K) ha
    rw [vl_len] at l1
    refine ⟨.ref a, rfl, .ref a, _, rfl, l1, o.length, rfl, b9, ht, fun H1 L us g1 hL eL pL => ?_⟩
    have lus := Paired.length pL
    refine ⟨L, rfl, ⟨_, SqL.of eL⟩, fun D hD => ?_⟩
    refine lc_list (xs := us.map V.ref) (fun i H2 => Go T H1 H2 ∧ ∃ ts : List Addr, H2 D = some (.lst (ts.map V.ref)) ∧ PairsAt H2 ts (((acs o.length).take i).filter (more o p))) ⟨Go.new g1.1 hD, [], upd_same, .nil⟩ (fun i H2 _ m => SqL.of (m.1.lst g1.1 eL)) (fun i x H2 hx m => ?_) (fun H2 m => ?_)
    · obtain ⟨g2, ts, eD, el2⟩ := m
      rw [List.getElem?_map] at hx
      obtain ⟨ti, hti, rfl⟩ := Option.map_eq_some_iff.mp hx
      obtain ⟨mk, hmk, eti⟩ := Paired.getL pL hti
      obtain ⟨m1, m2, k1, k2⟩ := acs_mem (List.mem_of_getElem? hmk)
      have sti : SqT K H1 ti (vl [mk.1, mk.2]) := SqT.of eti
      have g12 := g1.trans g2
      refine ⟨rfl, .ref a, rfl, .ref ti, rfl, a, ti, o, mk.1, mk.2, rfl, g12.lt ht ha, b9, g2.seqT g1.1 sti, m2, g12.1, fun H3 g3 => ?_⟩
      have g13 := g12.trans g3
      refine ⟨.ref d, rfl, .ref ti, rfl, d, ti, p, mk.1, mk.2, rfl, g13.lt ht hd, by omega, (g2.trans g3).seqT g1.1 sti, by omega, g13.1, fun H4 g4 => ⟨_, _, rfl, rfl, _, rfl, ?_⟩⟩
      have g24 := g2.trans (g3.trans g4)
      have eD4 := (g3.trans g4).lst g2.1 eD
      have lt := Paired.length el2
      have lf : (((acs o.length).take i).filter (more o p)).length ≤ 90 := Nat.le_trans (List.length_filter_le _ _) (Nat.le_trans (List.length_take_le' _ _) (by rw [← acTo_end]; exact acTo_le b9 b9 (by decide)))
      rw [take_snoc hmk, List.filter_append]
      by_cases gt : cc o mk.1 mk.2 > cc p mk.1 mk.2
      · rw [decide_eq_true (show ((cc p mk.1 mk.2 : Nat) : Int) < ((cc o mk.1 mk.2 : Nat) : Int) by omega)]
        have eti4 : H4 ti = some (.tup [V.int (mk.1 : Int), V.int (mk.2 : Int)]) := g24.2 ti _ (ne_tab g1.1 eti fun _ z => by cases z) eti
        refine iteT ⟨.ref ti, rfl, _, eD4, by rw [List.length_map, lt]; exact small9 (by omega), g24.put hD g1.1, ts ++ [ti], by rw [upd_same, List.map_append]; rfl, ?_⟩
        rw [List.filter_cons_of_pos (by exact decide_eq_true gt), List.filter_nil]
        exact Paired.snoc ((el2.go g2.1 (g3.trans g4)).up eD4) (by rw [upd_ne (ne_of eti4 eD4 fun z => by cases z)]; exact eti4)
      · rw [decide_eq_false (show ¬ ((cc p mk.1 mk.2 : Nat) : Int) < ((cc o mk.1 mk.2 : Nat) : Int) by omega)]
        refine iteF ⟨g24, ts, eD4, ?_⟩
        rw [List.filter_cons_of_neg (by rw [show more o p mk = false from decide_eq_false gt]; exact Bool.false_ne_true), List.filter_nil, List.append_nil]
        exact el2.go g2.1 (g3.trans g4)
    · obtain ⟨g2, ts, eD, el2⟩ := m
      rw [List.length_map, lus, List.take_length] at el2
      have g12 := g1.trans g2
      have fst : fstOver o p = ((acs o.length).filter (more o p)).head? := by
        unfold fstOver
        rw [List.head?_filter]
      refine ⟨.ref D, rfl, Nat.zero_le _, fun E hE => ?_⟩
      have g3 := Go.new (o := .lst []) g2.1 hE
      have eD3 := g3.lst g2.1 eD
      have el3 := el2.go g2.1 g3
      have small : ∀ q ∈ (acs o.length).filter (more o p), q.1 < 100 ∧ q.2 < 100 := fun q hq => by
        have := acs_mem (List.mem_filter.mp hq).1
        omega
      have lf : ((acs o.length).filter (more o p)).length ≤ 90 := Nat.le_trans (List.length_filter_le _ _) (by rw [← acTo_end]; exact acTo_le b9 b9 (by decide))
      have nice := nice_pairs small lf
      refine ⟨_, _, .lst (SqL.of eD3) (pairs_dp el3), .lst (xs := []) (SqL.of upd_same) .nil, nice.shaped (by decide), by decide +kernel, ?_⟩
      generalize (acs o.length).filter (more o p) = l at fst el3
      cases el3 with
      | nil =>
        refine ⟨false, rfl, iteF ?_⟩
        exact q1 _ (g12.trans g3) fst
      | cons r tl =>
        rename_i t q ts' l'
        refine ⟨true, rfl, iteT ⟨.ref D, rfl, D, _, 0, .ref t, rfl, rfl, SqL.of eD3, (show atI _ ((0 : Nat) : Int) = _ from atI_nat rfl), ?_⟩⟩
        exact q2 _ t q.1 q.2 (g12.trans g3) r fst
end
end Lb

set_option Elab.async false
set_option linter.all false
set_option maxRecDepth 100000
set_option maxHeartbeats 4000000
namespace Lb
open PySem PySem.Spec PyProof.Rows L2

abbrev s_table_right : Stmt := topS 40
theorem sc_table_right : FnScope ["_law_pot_here", "_law_order_here", "_law_told", "_law_size", "_law_table_here", "_law_turn", "_law_corner", "_law_due", "_law_row"] ["_law_pot_here", "_law_order_here"] (defScope s_table_right) := ⟨rfl, rfl, rfl, by decide +kernel, rfl, by decide +kernel, by decide +kernel⟩
section
variable {X : Cx}
/-- list(range(a, b, c)) -/
def tLstR3 (ta : TA) : TE := fun σ H Q => ta σ H fun vs H1 => ∃ (i j c : Int) (n : Nat), vs = [.int i, .int j, .int c] ∧ RgC i j c n ∧ n ≤ 1000 ∧ ∀ (q : Addr), H1 q = none → Q (.ref q) (upd H1 q (.lst ((List.range n).map fun k : Nat => V.int (i + (k : Int) * c))))
theorem pe_listR3 {a b c : Expr} {ta : TA} {p p' pos pos' : Pos} (hc : X.calm = true) (hg : Gl X "list") (hm : X.mg "list" = none) (hg' : Gl X "range") (hm' : X.mg "range" = none) (ha : PA X [a, b, c] ta)
    (na : starEach [.Call (.Name "range" p') [a, b, c] [] pos'] X.env = (false, eval (.Call (.Name "range" p') [a, b, c] [] pos') X.env) :: starEach [] X.env := by rfl)
    (hs : starEach [a, b, c] X.env = (false, eval a X.env) :: starEach [b, c] X.env := by rfl) (hpl : (backTo pos' (starEach [b, c] X.env)).any (·.1) = false := by rfl) :
    PE X (.Call (.Name "list" p) [.Call (.Name "range" p') [a, b, c] [] pos'] [] pos) (tLstR3 ta) := by
  refine ⟨fun pins s σ H Q I h => ?_⟩
  refine Call_ (ld_blt I hg hm boot_list (PyProof.Rows.callWith_type1 (args_cons (Call_ (ld_blt I hg' hm' boot_range (PyProof.Rows.callWith_type1 (thn (ha.run pos' pins s σ H _ I h) fun us s1 ⟨vs, H1, I1, r1, q1⟩ => ?_) hs hpl))) na) na))
  obtain ⟨i, j, k, n, e, ⟨c0, c1, c2, c3⟩, hn, q⟩ := q1
  subst e
  cases r1 with
  | cons r rr =>
    cases rr with
    | cons r' rr =>
      cases rr with
      | cons r'' rr =>
        cases rr
        obtain ⟨t, rfl⟩ := r
        obtain ⟨t', rfl⟩ := r'
        obtain ⟨t'', rfl⟩ := r''
        refine call_range_3 c0 ?_ (.inl (PyProof.noPylong_small c1))
        refine args_nil ?_
        have I2 : L2.Inv X pins σ H1 { s1 with heap := s1.heap.push { cls := .type "range", data := .fields #[.int i t, .int j t', .int k t''] } } := I1.kept (t' := s1.toks) fun b o e => Heap.get?_push_of_some _ e
        refine call_list_range (n := n) (I2.ok.hd hc) (IsRange.new ..) c2 c3 (by omega) fun h' tk acc cc' hk e' hi => ?_
        have rv : Vals ((List.range n).map fun m : Nat => V.int (i + (m : Int) * k)) acc.toList := by
          have z := vals_of_get acc.toList (fun m : Nat => V.int (i + (m : Int) * k)) fun m u e => by
            obtain ⟨_, hi2⟩ := hi
            obtain ⟨tt, e2⟩ := hi2 m u (by simpa using e)
            exact ⟨tt, e2⟩
          have sz : acc.toList.length = n := by
            rw [Array.length_toList]
            exact hi.1
          rw [sz] at z
          exact z
        refine ⟨.ref _, upd H1 _ (.lst ((List.range n).map fun m : Nat => V.int (i + (m : Int) * k))), I2.laid hk (Nat.le_refl _) (show ObjOk X.prog X.w _ _ _ (.lst ((List.range n).map fun m : Nat => V.int (i + (m : Int) * k))) from ⟨?_, acc.toList, cc', rv, ?_⟩), rfl, q _ (I2.hok.fresh (Nat.le_refl _))⟩
        · rw [List.length_map, List.length_range, sizeLine_eq]; omega
        · rw [Array.toArray_toList]; exact e'
end
def kw2 {α : Type} : List α → List α → List α
  | [], [a, b] => [b, a]
  | _, _ => []
theorem kw2_rel {vs : List V} {us : List Value} {zs : List V} {ws : List Value} (r : Vals vs us) (q : Vals zs ws) : Vals (kw2 vs zs) (kw2 us ws) := by
  cases r with
  | nil =>
    cases q with
    | nil => exact .nil
    | cons a t =>
      cases t with
      | nil => exact .nil
      | cons b t =>
        cases t with
        | nil => exact .cons b (.cons a .nil)
        | cons _ _ => exact .nil
  | cons _ _ => exact .nil
/-! rows of whole numbers as data -/
def rowsD (rs : List (List Nat)) : List PyData := rs.map fun r => PyData.list (dl r)
theorem rows_dp {K : PySem.W.Frag} {H : Hp} : ∀ {ts : List Addr} {rs : List (List Nat)}, RowsAt H ts rs → DpAll K H (ts.map V.ref) (rowsD rs)
  | _, _, .nil => .nil
  | _, _, .cons r t => .cons (lst_dp r) (rows_dp t)
theorem nice_rows {rs : List (List Nat)} (h : ∀ r ∈ rs, (∀ k ∈ r, k < 100) ∧ r.length ≤ 9) (hl : rs.length ≤ 9) : Nice 2 4000 (.list (rowsD rs)) := by
  refine (nice_list (n := 1) (m := 404) (ds := rowsD rs) fun d hd => ?_).mono (by decide) (by unfold rowsD; rw [List.length_map]; omega)
  obtain ⟨r, hr, rfl⟩ := List.mem_map.mp hd
  have := h r hr
  exact (nice_ord this.1 (by omega)).1
theorem nice_ctab {o : List Nat} (h : o.length ≤ 9) : Nice 2 4000 (.list (rowsD (ctab o))) := by
  refine nice_rows (fun r hr => ?_) (by rw [len_ctab]; exact h)
  obtain ⟨i, hi, rfl⟩ := List.mem_map.mp hr
  refine ⟨fun k hk => ?_, by rw [len_crow]; exact h⟩
  obtain ⟨j, hj, rfl⟩ := List.mem_map.mp hk
  have := cc_le o (i + 1) (j + 1)
  omega
theorem filter_up (n : Nat) : ∀ k, k ≤ n → ((List.range' 1 n).filter fun t => decide (k + 1 ≤ t)).length = n - k := by
  induction n with
  | zero =>
    intro k hk
    show 0 = 0 - k
    omega
  | succ n ih =>
    intro k hk
    rw [List.range'_concat, List.filter_append, List.length_append, List.filter_cons, List.filter_nil, show 1 + 1 * n = n + 1 by omega]
    by_cases e : k ≤ n
    · rw [ih k e, if_pos (decide_eq_true (by omega))]
      show n - k + 1 = n + 1 - k
      omega
    · have hk' : k = n + 1 := by omega
      subst hk'
      have z : (List.range' 1 n).filter (fun t => decide (n + 1 + 1 ≤ t)) = [] := List.filter_eq_nil_iff.mpr fun t ht => by
        obtain ⟨i, hi, e⟩ := List.mem_range'.mp ht
        rw [decide_eq_false (by omega)]
        exact Bool.false_ne_true
      rw [z, if_neg (by rw [decide_eq_false (by omega)]; exact Bool.false_ne_true)]
      show 0 + 0 = n + 1 - (n + 1)
      omega
theorem last_row {o : List Nat} (h : IsOrd o) : crow o o.length = dn o.length := by
  unfold crow dn
  refine List.map_congr_left fun k hk => ?_
  have := List.mem_range.mp hk
  unfold cc
  rw [List.take_length, (h.perm.filter _).length_eq]
  exact filter_up o.length k (by omega)
theorem first_col {o : List Nat} (h : IsOrd o) {m : Nat} (hm : m ≤ o.length) : cc o m 1 = m := by
  unfold cc
  rw [List.filter_eq_self.mpr fun t ht => ?_]
  · rw [List.length_take]
    omega
  · have z := (h.perm.mem_iff (a := t)).mp (List.mem_of_mem_take ht)
    obtain ⟨i, _, e⟩ := List.mem_range'.mp z
    exact decide_eq_true (by omega)
/-- what over tells -/
def Ovr (K : PySem.W.Frag) (H : Hp) (v : V) : Option (Nat × Nat) → Prop
  | none => v = .non
  | some p => ∃ t, v = .ref t ∧ SqT K H t (vl [p.1, p.2])
def ovD : Option (Nat × Nat) → PyData
  | none => .none
  | some p => .tuple (dl [p.1, p.2])
theorem Ovr.go {K : PySem.W.Frag} {T : Addr → Prop} {H H' : Hp} {v : V} {f : Option (Nat × Nat)} (h : Ovr K H v f) (t : Tabs H T) (g : Go T H H') : Ovr K H' v f := by
  cases f with
  | none => exact h
  | some p =>
    obtain ⟨x, e, s⟩ := h
    exact ⟨x, e, g.seqT t s⟩
theorem Ovr.dp {K : PySem.W.Frag} {H : Hp} {v : V} {f : Option (Nat × Nat)} (h : Ovr K H v f) : Dp K H v (ovD f) := by
  cases f with
  | none =>
    cases (show v = .non from h)
    exact .non
  | some p =>
    obtain ⟨x, rfl, s⟩ := h
    exact .tup s (dp_vl _)
theorem nice_ovD {f : Option (Nat × Nat)} (h : ∀ p, f = some p → p.1 < 100 ∧ p.2 < 100) : Nice 2 4000 (.list [ovD f, ovD f, ovD f]) := by
  have one : Nice 1 404 (ovD f) := by
    cases f with
    | none => exact ⟨by decide, rfl, rfl, by decide⟩
    | some p =>
      have := h p rfl
      exact (nice_ord (o := [p.1, p.2]) (fun k hk => by simp at hk; omega) (Nat.le_of_ble_eq_true rfl)).2
  refine (nice_list (n := 1) (m := 404) (ds := [ovD f, ovD f, ovD f]) fun d hd => ?_).mono (by decide) (by show (404 + 2) * 3 + 4 ≤ 4000; decide)
  rcases List.mem_cons.mp hd with rfl | hd
  · exact one
  · rcases List.mem_cons.mp hd with rfl | hd
    · exact one
    · cases List.mem_singleton.mp hd
      exact one
theorem over_one {K : PySem.W.Frag} {T : Addr → Prop} {H : Hp} {Q : VK} {f : Option (Nat × Nat)} (q : ∀ H' v, Go T H H' → Ovr K H' v f → Q v H') :
    (∀ H', Go T H H' → f = none → Q .non H') ∧ ∀ H' t (m k : Nat), Go T H H' → H t = none → H' t = some (.tup [V.int (m : Int), V.int (k : Int)]) → f = some (m, k) → Q (.ref t) H' := by
  refine ⟨fun H' g e => q H' _ g (by rw [e]; rfl), fun H' t m k g _ et e => q H' _ g ?_⟩
  rw [e]
  exact ⟨t, rfl, SqT.of et⟩
theorem over_self (o : List Nat) : fstOver o o = none := by
  unfold fstOver
  refine List.find?_eq_none.mpr fun x _ => ?_
  unfold more
  rw [decide_eq_false (Nat.lt_irrefl _)]
  exact Bool.false_ne_true
theorem over_small {o p : List Nat} (h : o.length ≤ 9) : ∀ q, fstOver o p = some q → q.1 < 100 ∧ q.2 < 100 := fun q e => by
  have := acs_mem (List.mem_of_find?_eq_some e)
  omega
def spOv (K : PySem.W.Frag) (T : Addr → Prop) : Sp := fun vs H Q _ => ∃ (a d : Addr) (o p : List Nat), vs = [.ref a, .ref d] ∧ SeqLT K H a (vl o) ∧ SeqLT K H d (vl p) ∧ IsOrd o ∧ IsOrd p ∧ o.length = p.length ∧ Tabs H T ∧ ∀ H' v, Go T H H' → Ovr K H' v (fstOver o p) → Q v H'
theorem ov_imp {K : PySem.W.Frag} {T : Addr → Prop} (vs : List V) (H : Hp) (Q : VK) (E : XK) (h : spOv K T vs H Q E) : spOver K T vs H Q E := by
  obtain ⟨a, d, o, p, e, ha, hd, io, ip, el, ht, q⟩ := h
  exact ⟨a, d, o, p, e, ha, hd, io, ip, el, ht, over_one q⟩
theorem lov_imp {K : PySem.W.Frag} {T : Addr → Prop} (vs : List V) (H : Hp) (Q : VK) (E : XK) (h : spOv K T vs H Q E) : spLover K T vs H Q E := by
  obtain ⟨a, d, o, p, e, ha, hd, io, ip, el, ht, q⟩ := h
  exact ⟨a, d, o, p, e, ha, hd, io.hi, el, ht, fun H' g e => q H' _ g (by rw [e]; rfl), fun H' t m k g et e => q H' _ g (by rw [e]; exact ⟨t, rfl, SqT.of et⟩)⟩
/-- the defs that the law calls -/
structure Defs (P : Program) (w : World) (K : PySem.W.Frag) (mg : Str → Option Value) (base : Heap) (T : Addr → Prop) : Prop where
  tab : Cn P w K mg base 6 "corner_table" ["order"] (spTab K T)
  tabK : CnK P w K mg base 6 "corner_table" ["order"] ["order"] kw1 kw1 (spTab K T)
  cnt : Cn P w K mg base 6 "counted" ["order", "corner"] (spCnt K T)
  cntK : CnK P w K mg base 6 "counted" ["order", "corner"] ["corner", "order"] kw2 kw2 (spCnt K T)
  over : Cn P w K mg base 6 "over" ["order", "other"] (spOv K T)
  overK : CnK P w K mg base 6 "over" ["order", "other"] ["other", "order"] kw2 kw2 (spOv K T)
  below : Cn P w K mg base 6 "is_below" ["order", "other"] (spBelow K T)
  pot : Cn P w K mg base 6 "_law_pot" ["_law_script", "_law_k"] (spPot K T)
  draw : Cn P w K mg base 6 "_law_draw" ["_law_pot_here", "_law_many"] (spDraw T)
  mixed : Cn P w K mg base 6 "_law_mixed" ["_law_pot_here", "_law_some"] (spMixed K T)
  order : Cn P w K mg base 6 "_law_order" ["_law_pot_here", "_law_size"] (spOrder K T)
  as : Cn P w K mg base 6 "_law_as" ["_law_pot_here", "_law_order_here"] (spAs K T)
  moved : Cn P w K mg base 6 "_law_moved" ["_law_order_here", "_law_first", "_law_second"] (spMoved K T)
  wrong : Cn P w K mg base 6 "_law_wrong" ["_law_order_here"] (spLw K T)
  lcnt : Cn P w K mg base 6 "_law_count" ["_law_order_here", "_law_corner"] (spLcnt K T)
  ltab : Cn P w K mg base 6 "_law_table" ["_law_order_here"] (spLtab K T)
  lover : Cn P w K mg base 6 "_law_over" ["_law_one", "_law_two"] (spOv K T)
  B : Bl2 mg
  sum : mg "sum" = none
section
variable {P : Program} {w : World} {K : PySem.W.Frag} {mg : Str → Option Value} {base : Heap} {T : Addr → Prop}
def spTabR (K : PySem.W.Frag) (T : Addr → Prop) : Sp := fun vs H Q _ => ∃ (q a : Addr) (o : List Nat), vs = [.ref q, .ref a] ∧ SqT K H a (vl o) ∧ IsOrd o ∧ PotAt H q ∧ Tabs H T ∧ ∀ H', Gp T q H H' → Q (.bl true) H'
theorem ok_table_right {f : Addr} {fd : FuncData} (F : Fun K "_law_table_right" "_law_table_right" s_table_right f fd) (D : Defs P w K mg base T) : FnG P w K mg base 7 f fd ["_law_pot_here", "_law_order_here"] (spTabR K T) := by
  refine okG F sc_table_right (fun vs H Q E h => ?_) (fun cdv A outer s H vs Q E hg hr h => ?_)
  · obtain ⟨q, a, o, rfl, _⟩ := h
    rfl
  · obtain ⟨q, a, o, rfl, ha, io, pt, ht, k⟩ := h
    have b9 := io.hi
    have b1 := io.lo
    have hun := hr.un
    have eu : (A.deeper (envOfC "_law_table_right" (defScope s_table_right) s.heap.objs.size f cdv)).units = A.units + 3 := rfl
    have hu : A.units + 3 + 64 < cLine := by omega
    have hu2 : A.units + 3 + (2 + 1) < cLine := by omega
    refine ⟨_, (pss_cons (ps_par (i := 2) (j := 3) (by rfl) sc_table_right.nd rfl rfl (by decide) rfl rfl (pa_cons (pe_cn D.as hr (by rfl) (pa_cons (pv 0) (pa_cons (pv 1) pa_nil))) (pa_cons (pe_callB call_len (by rfl) D.B.b.len PySem.boot_len (pa_cons (pv 1) pa_nil)) pa_nil)) (by rfl))
      (pss_cons (ps_set (i := 4) sc_table_right.nd rfl (Or.inl rfl) (pe_cn D.tab hr (by rfl) (pa_cons (pv 2) pa_nil)))
      (pss_cons (ps_if (PW.pt (pw_or (pt_cmpR op_ne (pe_callB (cr_reprD (n := 2) hg hu2) (by rfl) D.B.repr (by decide +kernel) (pa_cons (pv 4) pa_nil)) (pe_callB (cr_reprD (n := 2) hg hu2) (by rfl) D.B.repr (by decide +kernel) (pa_cons (pe_cn D.ltab hr (by rfl) (pa_cons (pv 1) pa_nil)) pa_nil)) (nomark _)) (pw_or (pt_cmpR (op_neD hu) (pe_ix ix_list (pv 4) (pe_un un_neg pe_int) (fun _ _ => rfl)) (pe_listR3 rfl (by rfl) D.B.b.list (by rfl) D.B.b.range (pa_cons (pv 3) (pa_cons pe_int (pa_cons (pe_un un_neg pe_int) pa_nil)))) (nomark _)) (pw_or1 (pt_cmpR (op_neD hu) (pe_lc (own := [("_law_row", 8)]) (g := gName 8) (tt := tYes) (by rfl) sc_table_right.nd (pi_list (pv 4)) (blkOk_by (by rfl)) (fun _ _ _ _ _ => (pg_name (i := 8) sc_table_right.nd rfl (Or.inl rfl))) (fun _ _ _ _ _ => pts_nil) (fun _ _ _ _ _ => (pe_ix (show IxR _ (rIx K) from ix_seq) (pv 8) pe_int (fun _ _ => rfl)))) (pe_listRg rfl (by rfl) D.B.b.list (prg_2 (by rfl) D.B.b.range pe_int (pe_op op_add (pv 3) pe_int))) (nomark _))))))
        (pss_one (ps_ret pe_bl)) pss_nil)
      (pss_cons (ps_for PassesOwn.never rfl (pi_range1 (by rfl) D.B.b.range (pa_cons pe_int pa_nil)) (pg_name (i := 5) sc_table_right.nd rfl (Or.inl rfl))
        (pss_cons (ps_set (i := 6) sc_table_right.nd rfl (Or.inl rfl) (pe_tup (pa_cons (pe_op op_add pe_int (pe_cn D.draw hr (by rfl) (pa_cons (pv 0) (pa_cons (pv 3) pa_nil)))) (pa_cons (pe_op op_add pe_int (pe_cn D.draw hr (by rfl) (pa_cons (pv 0) (pa_cons (pv 3) pa_nil)))) pa_nil))))
      (pss_cons (ps_set (i := 7) sc_table_right.nd rfl (Or.inl rfl) (pe_cn D.lcnt hr (by rfl) (pa_cons (pv 1) (pa_cons (pv 6) pa_nil))))
      (pss_one (ps_if (pt_cmpR op_ne (pe_callB (cr_reprD (n := 2) hg hu2) (by rfl) D.B.repr (by decide +kernel) (pa_cons (pe_lst (pa_cons (pe_cn D.cnt hr (by rfl) (pa_cons (pv 2) (pa_cons (pv 6) pa_nil))) (pa_cons (pe_cnK D.cntK hr (by rfl) (pk_cons (pv 6) (pk_cons (pv 2) pk_nil))) (pa_cons (pe_ix ix_list (pe_ix ix_list (pv 4) (pe_op op_sub (pe_ix (show IxR _ (rIx K) from ix_seq) (pv 6) pe_int (fun _ _ => rfl)) pe_int) (fun _ _ => rfl)) (pe_op op_sub (pe_ix (show IxR _ (rIx K) from ix_seq) (pv 6) pe_int (fun _ _ => rfl)) pe_int) (fun _ _ => rfl)) pa_nil)))) pa_nil)) (pe_callB (cr_reprD (n := 2) hg hu2) (by rfl) D.B.repr (by decide +kernel) (pa_cons (pe_op op_rep (pe_lst (pa_cons (pv 7) pa_nil)) pe_int) pa_nil)) (nomark _))
        (pss_one (ps_ret pe_bl)) pss_nil)))))
      (pss_cons (ps_expr (pe_bm PySem.F.plainAttrs_list PySem.F.slot_list_append PySem.F.type_list_append mt_append (pe_ix ix_list (pv 4) pe_int (fun _ _ => rfl)) (pa_cons pe_int pa_nil)))
      (pss_cons (ps_expr (pe_bm PySem.F.plainAttrs_list PySem.F.slot_list_append PySem.F.type_list_append mt_append (pv 4) (pa_cons (pe_lst pa_nil) pa_nil)))
      (pss_one (ps_ret (pe_cmpR op_eq (pe_callB (cr_reprD (n := 2) hg hu2) (by rfl) D.B.repr (by decide +kernel) (pa_cons (pe_cnK D.tabK hr (by rfl) (pk_cons (pv 2) pk_nil)) pa_nil)) (pe_callB (cr_reprD (n := 2) hg hu2) (by rfl) D.B.repr (by decide +kernel) (pa_cons (pe_cn D.ltab hr (by rfl) (pa_cons (pv 1) pa_nil)) pa_nil)) (nomark _)))))))))), ?_⟩
    have nct := nice_ctab (o := o) b9
    refine ⟨.ref q, rfl, .ref a, rfl, q, a, o, rfl, ha, pt, ht, fun H1 p c1 lp dp => ?_⟩
    have ts1 := c1.tab
    have a1 := c1.seqT ht pt ha
    have l1 := lenV_seq (K := K) (.inr a1)
    rw [vl_len] at l1
    have told : ∀ H', Gp T q H1 H' → SeqLT K H' p (vl o) := fun H' c => by
      rcases dp with h | ⟨n, h⟩
      · exact .inr (c.seqT ts1 c1.pot h)
      · exact .inl (SqL.of (c.lst ts1 n h))
    refine ⟨.ref a, rfl, .ref a, _, rfl, l1, ⟨_, _, rfl, ?_⟩⟩
    -- the told table
    refine ⟨.ref p, rfl, p, o, rfl, lp, io, ts1, fun H2 t ts g2 ht2 et rows nts => ?_⟩
    have m2 := g2.gp ts1 c1.pot
    have lts := Paired.length rows
    rw [len_ctab] at lts
    -- repr(told) != repr(due)
    refine ⟨.ref t, rfl, t, _, rfl, .lst (SqL.of et) (rows_dp rows), nct.shw, nct.noDict, nct.dep, nct.fit, ?_⟩
    refine ⟨.ref a, rfl, a, o, rfl, .inr (m2.seqT ts1 c1.pot a1), b9, g2.1, fun H3 t3 ts3 g3 ht3 et3 rows3 => ?_⟩
    refine ⟨t3, _, rfl, .lst (SqL.of et3) (rows_dp rows3), nct.shw, nct.noDict, nct.dep, nct.fit, ne_str ⟨false, rfl, iteF ?_⟩⟩
    have g13 := g2.trans g3
    have etH3 := g3.lst g2.1 et
    have rowsH3 := rows.go g2.1 g3
    have a3 := (m2.then g3).seqT ts1 c1.pot a1
    -- told[-1] != list(range(size, 0, -1))
    obtain ⟨tl, htl, etl⟩ := rows_at rowsH3 (m := o.length - 1) (by omega)
    rw [show o.length - 1 + 1 = o.length by omega, last_row io] at etl
    have etl_last : atI (ts.map V.ref) (-1) = some (V.ref tl) := by
      have e : ts = ts.take (o.length - 1) ++ [tl] := by
        have z := take_snoc htl
        rw [show o.length - 1 + 1 = o.length by omega, List.take_of_length_le (by omega)] at z
        exact z
      rw [e, List.map_append]
      exact atI_last _ _
    refine ⟨.ref t, rfl, 1, rfl, t, _, -1, .ref tl, rfl, rfl, SqL.of etH3, etl_last, ?_⟩
    refine ⟨.int (o.length : Int), rfl, 1, rfl, (o.length : Int), 0, -1, o.length, rfl, ?_, by omega, fun L1 hL1 => ?_⟩
    · have z := RgC.neg (i := (o.length : Int)) (j := 0) (by omega) (by omega) (by omega) (by omega)
      rw [show ((o.length : Int) - 0).toNat = o.length by omega] at z
      exact z
    rw [dn_vl]
    have g4 := Go.new (o := .lst (vl (dn o.length))) g3.1 hL1
    have ndn : Nice 2 4000 (.list (dl (dn o.length))) := nice_nums (fun x hx => by
      obtain ⟨i, _, rfl⟩ := List.mem_map.mp hx
      omega) (by rw [len_dn]; omega)
    refine ne_data (lst_dp (g4.lst g3.1 etl)) (lst_dp upd_same) ndn (by decide) ⟨false, rfl, iteF ?_⟩
    have etH4 := g4.lst g3.1 etH3
    have rowsH4 := rowsH3.go g3.1 g4
    have g24 := g3.trans g4
    generalize upd H3 L1 (.lst (vl (dn o.length))) = H4 at g4 g24 etH4 rowsH4 ⊢
    -- [row[0] for row in told] != list(range(1, size + 1))
    refine ⟨.ref t, rfl, t, rfl, ⟨_, SqL.of etH4⟩, fun L2 hL2 => ?_⟩
    refine lc_list (xs := ts.map V.ref) (fun i H5 => Made T H4 L2 ((List.range' 1 o.length).take i) H5) (Made.start g4.1 hL2) (fun i H5 _ m => SqL.of ((m.go hL2).lst g4.1 etH4)) (fun i x H5 hx m => ?_) (fun H5 m => ?_)
    · rw [List.getElem?_map] at hx
      obtain ⟨ti, hti, rfl⟩ := Option.map_eq_some_iff.mp hx
      have hi : i < o.length := by
        have := (List.getElem?_eq_some_iff.mp hti).1
        omega
      obtain ⟨ti', hti', eti⟩ := rows_at rowsH4 hi
      rw [hti] at hti'
      cases hti'
      have g5 := m.go hL2
      have mo := m.more (k := 1 + i) hL2 g4.1 (Go.refl m.1)
      refine ⟨rfl, .ref ti, rfl, ix_at (o := crow o (i + 1)) (i := 0) (.inl (SqL.of (g5.lst g4.1 eti))) (by rw [len_crow]; omega) rfl ?_⟩
      have e0 : (crow o (i + 1)).getD 0 0 = 1 + i := by
        rw [at_of (crow_at (o := o) (m := i + 1) (k := 0) (by omega)), first_col io (by omega)]
        omega
      rw [e0]
      refine ⟨_, mo.1, by rw [vl_len, List.length_take, List.length_range']; exact small9 (by omega), ?_⟩
      rw [take_snoc (l := List.range' 1 o.length) (x := 1 + i) (by rw [List.getElem?_range' hi]; congr 1; omega)]
      exact mo.2
    have g5 := m.go hL2
    have eL2 := m.2.2
    rw [List.length_map, lts, List.take_of_length_le (by rw [List.length_range']; exact Nat.le_refl _)] at eL2
    refine ⟨.int (o.length : Int), rfl, _, 1, rfl, rfl, 1, (o.length : Int) + 1, rfl, rfl, RgOk.of_le (by omega) (by omega) (by omega) (by omega), fun L3 hL3 => ?_⟩
    rw [rg_vl]
    have g6 := Go.new (o := .lst (vl (List.range' 1 o.length))) g5.1 hL3
    have nup : Nice 2 4000 (.list (dl (List.range' 1 o.length))) := nice_nums (fun x hx => by
      obtain ⟨i, hi, rfl⟩ := List.mem_range'.mp hx
      omega) (by rw [List.length_range']; omega)
    refine ne_data (lst_dp (g6.lst g5.1 eL2)) (lst_dp upd_same) nup (by decide) ⟨false, rfl, iteF ?_⟩
    have g2S := g24.trans (g5.trans g6)
    have etS := (g5.trans g6).lst g4.1 etH4
    have rowsS := rowsH4.go g4.1 (g5.trans g6)
    generalize upd H5 L3 (.lst (vl (List.range' 1 o.length))) = S at g2S etS rowsS ⊢
    have mS := m2.then g2S
    have tS := mS.tab
    have pS := mS.pot
    have tq : t ≠ q := c1.pot.ne ht2
    have tsq : ∀ x ∈ ts, x ≠ q := fun x hx => c1.pot.ne (nts x hx)
    have rowsG : ∀ {H'}, Gp T q S H' → RowsAt H' ts (ctab o) := fun {H'} c => by
      have : ∀ {ts' : List Addr} {rs : List (List Nat)}, RowsAt S ts' rs → (∀ x ∈ ts', x ≠ q) → RowsAt H' ts' rs := by
        intro ts' rs h
        induction h with
        | nil => intro _; exact .nil
        | cons r tl ih => intro n; exact .cons (c.lst tS (n _ (.head _)) r) (ih fun x hx => n x (.tail _ hx))
      exact this rowsS tsq
    clear g24 g2 g3 g4 g5 g6 g13 rowsH3 rowsH4 etH3 etH4 rows3 et3 eL2 m etl
    refine ⟨8, rfl, by decide, by decide, ?_⟩
    refine for_range (lo := 0) (n := ((8 : Int)).toNat) (fun i σ H5 => ∃ tv cv dv : Option V, σ = [some (.ref q), some (.ref a), some (.ref p), some (.int (o.length : Int)), some (.ref t), tv, cv, dv, none] ∧ Gp T q S H5) ⟨none, none, none, rfl, Gp.refl tS pS⟩ ?_ ?_
    · rintro i σ H5 hi ⟨tv, cv, dv, rfl, c5⟩
      have M5 := mS.trans c5
      refine ⟨.ref q, rfl, .int (o.length : Int), rfl, q, o.length, rfl, b1, by omega, c5.pot, c5.tab, fun H6 d1 c6 hd1 => ⟨1, _, rfl, rfl, ?_⟩⟩
      refine ⟨.ref q, rfl, .int (o.length : Int), rfl, q, o.length, rfl, b1, by omega, c6.pot, c6.tab, fun H7 d2 c7 hd2 => ⟨1, _, rfl, rfl, ?_⟩⟩
      refine ⟨by show 2 ≤ sizeLine; decide, fun x hx => ?_⟩
      have g8 := Go.new (o := .tup [V.int (1 + (d1 : Int)), V.int (1 + (d2 : Int))]) c7.tab hx
      have ex : SqT K (upd H7 x (.tup [V.int (1 + (d1 : Int)), V.int (1 + (d2 : Int))])) x (vl [d1 + 1, d2 + 1]) := SqT.of (by
        rw [upd_same, show (1 + (d1 : Int)) = ((d1 + 1 : Nat) : Int) by omega, show (1 + (d2 : Int)) = ((d2 + 1 : Nat) : Int) by omega]
        rfl)
      have m8 := (c5.trans (c6.trans c7)).then g8
      have M8 := mS.trans m8
      generalize upd H7 x (.tup [V.int (1 + (d1 : Int)), V.int (1 + (d2 : Int))]) = H8 at g8 ex m8 M8 ⊢
      refine ⟨.ref a, rfl, .ref x, rfl, a, x, o, d1 + 1, d2 + 1, rfl, .inr (M8.seqT ts1 c1.pot a1), b9, ex, by omega, m8.tab, fun H9 g9 => ?_⟩
      refine ⟨.ref p, rfl, .ref x, rfl, p, x, o, d1 + 1, d2 + 1, rfl, told _ (M8.then g9), io, g9.seqT m8.tab ex, by omega, by omega, by omega, by omega, g9.1, fun H10 g10' => ?_⟩
      have g10 := g9.trans g10'
      refine ⟨.ref x, rfl, .ref p, rfl, p, x, o, d1 + 1, d2 + 1, rfl, told _ (M8.then g10), io, g10.seqT m8.tab ex, by omega, by omega, by omega, by omega, g10.1, fun H11 g11' => ?_⟩
      have g11 := g10.trans g11'
      have m11 := m8.then g11
      have ex11 := g11.seqT m8.tab ex
      obtain ⟨tr, htr, etr⟩ := rows_at (rowsG m11) (m := d1) (by omega)
      have ca := crow_at (o := o) (m := d1 + 1) (k := d2) (by omega)
      refine ⟨.ref t, rfl, .ref x, rfl, ix_at (o := [d1 + 1, d2 + 1]) (i := 0) (.inr ex11) (Nat.le_of_ble_eq_true rfl) rfl ⟨_, 1, rfl, rfl, t, _, _, .ref tr, rfl, rfl, SqL.of (m11.lst tS tq etS), ?_, ?_⟩⟩
      · rw [show ((([d1 + 1, d2 + 1] : List Nat).getD 0 0 : Nat) : Int) - 1 = ((d1 : Nat) : Int) by show ((d1 + 1 : Nat) : Int) - 1 = _; omega]
        exact atI_nat (by rw [List.getElem?_map, htr]; rfl)
      refine ⟨.ref x, rfl, ix_at (o := [d1 + 1, d2 + 1]) (i := 1) (.inr ex11) (Nat.le_of_ble_eq_true rfl) rfl ⟨_, 1, rfl, rfl, tr, _, _, .int ((cc o (d1 + 1) (d2 + 1) : Nat) : Int), rfl, rfl, SqL.of etr, ?_, ?_⟩⟩
      · rw [show ((([d1 + 1, d2 + 1] : List Nat).getD 1 0 : Nat) : Int) - 1 = ((d2 : Nat) : Int) by show ((d2 + 1 : Nat) : Int) - 1 = _; omega]
        exact atI_nat (vl_get ca)
      have cs := cc_le o (d1 + 1) (d2 + 1)
      generalize cc o (d1 + 1) (d2 + 1) = c at cs ⊢
      have n3 : Nice 2 4000 (.list (dl [c, c, c])) := nice_nums (fun x hx => by simp at hx; omega) (Nat.le_of_ble_eq_true rfl)
      refine ⟨by show 3 ≤ sizeLine; decide, fun L hL => ?_⟩
      have g12 := Go.new (o := .lst (vl [c, c, c])) g11.1 hL
      refine ⟨L, .list (dl [c, c, c]), rfl, lst_dp upd_same, n3.shw, n3.noDict, n3.dep, n3.fit, ?_⟩
      refine ⟨.int (c : Int), rfl, by show 1 ≤ sizeLine; decide, fun z hz => ?_⟩
      have g13 := Go.new (o := .lst (vl [c])) g12.1 hz
      refine ⟨z, 3, _, rfl, rfl, upd_same, by decide, by decide, by show 1 * 3 ≤ sizeLine; decide, fun z3 hz3 => ?_⟩
      have g14 := Go.new (o := .lst (vl [c, c, c])) g13.1 hz3
      refine ⟨z3, .list (dl [c, c, c]), rfl, lst_dp upd_same, n3.shw, n3.noDict, n3.dep, n3.fit, ne_str ⟨false, rfl, iteF ?_⟩⟩
      exact ⟨_, _, _, rfl, (m11.then (g12.trans (g13.trans g14)))⟩
    · rintro σ H5 ⟨tv, cv, dv, rfl, c5⟩
      have M5 := mS.trans c5
      obtain ⟨t0, ht0, et0⟩ := rows_at (rowsG c5) (m := 0) (by omega)
      have ets5 := c5.lst tS tq etS
      have t0n : H1 t0 = none := nts t0 (List.mem_of_getElem? ht0)
      refine ⟨.ref t, rfl, t, _, 0, .ref t0, rfl, rfl, SqL.of ets5, (show atI _ ((0 : Nat) : Int) = _ from atI_nat (by rw [List.getElem?_map, ht0]; rfl)), .inl ⟨rfl, _, SqL.of et0⟩, t0, _, _, rfl, rfl, et0, by rw [vl_len, len_crow]; exact small9 (by omega), ?_⟩
      have M6 := M5.put (o := .lst (vl (crow o (0 + 1)) ++ [V.int 9])) t0n ts1 c1.pot
      have t0t : t ≠ t0 := fun z => by
        rw [← z, ets5] at et0
        have e := congrArg (fun x => match x with | some (HO.lst (V.int _ :: _)) => true | _ => false) et0
        have ne : crow o (0 + 1) ≠ [] := fun z => by
          have := len_crow o (0 + 1)
          rw [z] at this
          simp at this
          omega
        cases hts : ts with
        | nil => rw [hts] at lts; simp at lts; omega
        | cons y ys =>
          cases hc : crow o (0 + 1) with
          | nil => exact ne hc
          | cons u us =>
            rw [hts, hc] at et0
            cases et0
      have ets6 : (upd H5 t0 (.lst (vl (crow o (0 + 1)) ++ [V.int 9]))) t = some (.lst (ts.map V.ref)) := by
        rw [upd_ne t0t]
        exact ets5
      generalize upd H5 t0 (.lst (vl (crow o (0 + 1)) ++ [V.int 9])) = H6 at M6 ets6 ⊢
      refine ⟨.ref t, rfl, .inl ⟨rfl, _, SqL.of ets6⟩, Nat.zero_le _, fun E hE => ?_⟩
      have M7 := M6.then (Go.new (o := .lst []) M6.tab hE)
      have ets7 := (Go.new (o := .lst []) M6.tab hE).lst M6.tab ets6
      refine ⟨t, _, _, rfl, rfl, ets7, by rw [List.length_map]; exact small9 (by omega), ?_⟩
      have M8 := M7.put (o := .lst (ts.map V.ref ++ [V.ref E])) ht2 ts1 c1.pot
      refine ⟨.ref p, rfl, p, o, rfl, told _ M8, io, M8.tab, fun H9 t9 ts9 g9 _ et9 rows9 _ => ?_⟩
      have M9 := M8.then g9
      refine ⟨t9, _, rfl, .lst (SqL.of et9) (rows_dp rows9), nct.shw, nct.noDict, nct.dep, nct.fit, ?_⟩
      refine ⟨.ref a, rfl, a, o, rfl, .inr (M9.seqT ts1 c1.pot a1), b9, M9.tab, fun H10 t10 ts10 g10 _ et10 rows10 => ?_⟩
      refine ⟨t10, _, rfl, .lst (SqL.of et10) (rows_dp rows10), nct.shw, nct.noDict, nct.dep, nct.fit, ?_⟩
      refine ⟨rfl, ?_⟩
      rw [decide_eq_true rfl]
      exact k _ (c1.trans (M9.then g10))
end
end Lb

set_option Elab.async false
set_option linter.all false
set_option maxRecDepth 100000
set_option maxHeartbeats 4000000
namespace Lb
open PySem PySem.Spec PyProof.Rows L2

abbrev s_pair_right : Stmt := topS 41
theorem sc_pair_right : FnScope ["_law_pot_here", "_law_one", "_law_two", "_law_due", "_law_told"] ["_law_pot_here", "_law_one", "_law_two"] (defScope s_pair_right) := ⟨rfl, rfl, rfl, by decide +kernel, rfl, by decide +kernel, by decide +kernel⟩
abbrev s_right : Stmt := topS 42
theorem sc_right : FnScope ["_law_pot_here", "_law_size", "_law_one", "_law_two", "_law_nine", "_law_near", "_law_far"] ["_law_pot_here"] (defScope s_right) := ⟨rfl, rfl, rfl, by decide +kernel, rfl, by decide +kernel, by decide +kernel⟩
abbrev s_law : Stmt := topS 43
theorem sc_law : FnScope ["_law_script", "_law_k"] ["_law_script"] (defScope s_law) := ⟨rfl, rfl, rfl, by decide +kernel, rfl, by decide +kernel, by decide +kernel⟩
theorem Gp.go {T : Addr → Prop} {q : Addr} {H0 H H' : Hp} (g : Gp T q H H') (a : Go T H0 H) (n : H0 q = none) : Go T H0 H' := ⟨g.tab, fun b u nb e => g.old b u nb (ne_of_none e n) (a.2 b u nb e)⟩
section
variable {P : Program} {w : World} {K : PySem.W.Frag} {mg : Str → Option Value} {base : Heap} {T : Addr → Prop}
def spPairR (K : PySem.W.Frag) (T : Addr → Prop) : Sp := fun vs H Q _ => ∃ (q a d : Addr) (o p : List Nat), vs = [.ref q, .ref a, .ref d] ∧ SqT K H a (vl o) ∧ SqT K H d (vl p) ∧ IsOrd o ∧ IsOrd p ∧ o.length = p.length ∧ Tabs H T ∧ ∀ H', Go T H H' → Q (.bl true) H'
theorem ok_pair_right {f : Addr} {fd : FuncData} (F : Fun K "_law_pair_right" "_law_pair_right" s_pair_right f fd) (D : Defs P w K mg base T) : FnG P w K mg base 7 f fd ["_law_pot_here", "_law_one", "_law_two"] (spPairR K T) := by
  refine okG F sc_pair_right (fun vs H Q E h => ?_) (fun cdv A outer s H vs Q E hg hr h => ?_)
  · obtain ⟨q, a, d, o, p, rfl, _⟩ := h
    rfl
  · obtain ⟨q, a, d, o, p, rfl, ha, hd, io, ip, el, ht, k⟩ := h
    have b9 := io.hi
    have hun := hr.un
    have eu : (A.deeper (envOfC "_law_pair_right" (defScope s_pair_right) s.heap.objs.size f cdv)).units = A.units + 3 := rfl
    have hu : A.units + 3 + 64 < cLine := by omega
    have hu2 : A.units + 3 + (2 + 1) < cLine := by omega
    refine ⟨_, (pss_cons (ps_set (i := 3) sc_pair_right.nd rfl (Or.inl rfl) (pe_cn D.lover hr (by rfl) (pa_cons (pv 1) (pa_cons (pv 2) pa_nil))))
      (pss_cons (ps_set (i := 4) sc_pair_right.nd rfl (Or.inl rfl) (pe_lst (pa_cons (pe_cn D.over hr (by rfl) (pa_cons (pv 1) (pa_cons (pv 2) pa_nil))) (pa_cons (pe_cnK D.overK hr (by rfl) (pk_cons (pe_callTy call_list_of (by rfl) D.B.b.list (by decide +kernel) (pa_cons (pv 2) pa_nil)) (pk_cons (pv 1) pk_nil))) (pa_cons (pe_cn D.over hr (by rfl) (pa_cons (pe_callTy call_list_of (by rfl) D.B.b.list (by decide +kernel) (pa_cons (pv 1) pa_nil)) (pa_cons (pv 2) pa_nil))) pa_nil)))))
      (pss_one (ps_ret (pe_and (pe_cmpR op_eq (pe_callB (cr_reprD (n := 2) hg hu2) (by rfl) D.B.repr (by decide +kernel) (pa_cons (pv 4) pa_nil)) (pe_callB (cr_reprD (n := 2) hg hu2) (by rfl) D.B.repr (by decide +kernel) (pa_cons (pe_op op_rep (pe_lst (pa_cons (pv 3) pa_nil)) pe_int) pa_nil)) (nomark _)) (pe_one (pe_cmpR op_eq (pe_cn D.below hr (by rfl) (pa_cons (pv 1) (pa_cons (pv 2) pa_nil))) (pe_cmpR op_isN (pv 3) pe_non (nomark _)) (nomark _)))))))), ?_⟩
    have n3 := nice_ovD (over_small (o := o) (p := p) b9)
    refine ⟨.ref a, rfl, .ref d, rfl, a, d, o, p, rfl, .inr ha, .inr hd, io, ip, el, ht, fun H1 v0 g1 o0 => ?_⟩
    refine ⟨.ref a, rfl, .ref d, rfl, a, d, o, p, rfl, .inr (g1.seqT ht ha), .inr (g1.seqT ht hd), io, ip, el, g1.1, fun H2 v1 g2' o1 => ?_⟩
    have g2 := g1.trans g2'
    refine ⟨.ref d, rfl, d, vl p, rfl, .inr (g2.seqT ht hd), fun x hx => ?_⟩
    have g3' := Go.new (o := .lst (vl p)) g2.1 hx
    have g3 := g2.trans g3'
    refine ⟨.ref a, rfl, a, x, o, p, rfl, .inr (g3.seqT ht ha), .inl (SqL.of upd_same), io, ip, el, g3.1, fun H4 v2 g4' o2 => ?_⟩
    have g4 := g3.trans g4'
    refine ⟨.ref a, rfl, a, vl o, rfl, .inr (g4.seqT ht ha), fun y hy => ?_⟩
    have g5' := Go.new (o := .lst (vl o)) g4.1 hy
    have g5 := g4.trans g5'
    refine ⟨.ref d, rfl, y, d, o, p, rfl, .inl (SqL.of upd_same), .inr (g5.seqT ht hd), io, ip, el, g5.1, fun H6 v3 g6' o3 => ?_⟩
    have g6 := g5.trans g6'
    have o0 := o0.go g1.1 (g2'.trans (g3'.trans (g4'.trans (g5'.trans g6'))))
    have o1 := o1.go g2.1 (g3'.trans (g4'.trans (g5'.trans g6')))
    have o2 := o2.go g4.1 (g5'.trans g6')
    refine ⟨by show 3 ≤ sizeLine; decide, fun L hL => ?_⟩
    have g7' := Go.new (o := .lst [v1, v2, v3]) g6.1 hL
    have eL : (upd H6 L (.lst [v1, v2, v3])) L = some (.lst [v1, v2, v3]) := upd_same
    have g7 := g6.trans g7'
    refine ⟨.ref L, rfl, L, .list [ovD (fstOver o p), ovD (fstOver o p), ovD (fstOver o p)], rfl, .lst (SqL.of eL) (.cons (o1.go g6.1 g7').dp (.cons (o2.go g6.1 g7').dp (.cons (o3.go g6.1 g7').dp .nil))), n3.shw, n3.noDict, n3.dep, n3.fit, ?_⟩
    have o0 := o0.go g6.1 g7'
    refine ⟨v0, rfl, by show 1 ≤ sizeLine; decide, fun z hz => ?_⟩
    have g8' := Go.new (o := .lst [v0]) g7.1 hz
    refine ⟨z, 3, _, rfl, rfl, upd_same, by decide, by decide, by show 1 * 3 ≤ sizeLine; decide, fun z3 hz3 => ?_⟩
    have g9' := Go.new (o := .lst (List.replicate (3 : Int).toNat [v0]).flatten) g8'.1 hz3
    have o0 := o0.go g7.1 (g8'.trans g9')
    have g9 := g7.trans (g8'.trans g9')
    refine ⟨z3, .list [ovD (fstOver o p), ovD (fstOver o p), ovD (fstOver o p)], rfl, .lst (xs := [v0, v0, v0]) (SqL.of upd_same) (.cons o0.dp (.cons o0.dp (.cons o0.dp .nil))), n3.shw, n3.noDict, n3.dep, n3.fit, ?_⟩
    refine ⟨rfl, ?_⟩
    rw [decide_eq_true rfl]
    refine ⟨true, rfl, iteT ?_⟩
    refine ⟨.ref a, rfl, .ref d, rfl, a, d, o, p, rfl, .inr (g9.seqT ht ha), .inr (g9.seqT ht hd), io, ip, el, g9.1, fun H10 g10 => ?_⟩
    refine ⟨v0, rfl, rfl, rfl, ?_⟩
    have e0 : decide (V.bl (fstOver o p).isNone = V.bl (decide (v0 = V.non))) = true := by
      refine decide_eq_true ?_
      congr 1
      cases h : fstOver o p with
      | none =>
        rw [h] at o0
        cases (show v0 = .non from o0)
        rfl
      | some x =>
        rw [h] at o0
        obtain ⟨t, rfl, _⟩ := o0
        rfl
    rw [e0]
    exact k _ (g9.trans g10)

def spRt (T : Addr → Prop) : Sp := fun vs H Q _ => ∃ (q : Addr), vs = [.ref q] ∧ PotAt H q ∧ Tabs H T ∧ ∀ H', Gp T q H H' → Q (.bl true) H'
theorem ok_right {f : Addr} {fd : FuncData} (F : Fun K "_law_right" "_law_right" s_right f fd) (D : Defs P w K mg base T) (C1 : CnG P w K mg base 7 "_law_table_right" ["_law_pot_here", "_law_order_here"] (spTabR K T))
    (C2 : CnG P w K mg base 7 "_law_pair_right" ["_law_pot_here", "_law_one", "_law_two"] (spPairR K T)) : FnG P w K mg base 8 f fd ["_law_pot_here"] (spRt T) := by
  refine okG F sc_right (fun vs H Q E h => ?_) (fun cdv A outer s H vs Q E hg hr h => ?_)
  · obtain ⟨q, rfl, _⟩ := h
    rfl
  · obtain ⟨q, rfl, pt, ht, k⟩ := h
    have hr6 : Room 6 (A.deeper (envOfC "_law_right" (defScope s_right) s.heap.objs.size f cdv)) := hr.mono (by decide)
    refine ⟨_, (pss_cons (ps_set (i := 1) sc_right.nd rfl (Or.inl rfl) (pe_op op_add pe_int (pe_cn D.draw hr6 (by rfl) (pa_cons (pv 0) (pa_cons pe_int pa_nil)))))
      (pss_cons (ps_par (i := 2) (j := 3) (by rfl) sc_right.nd rfl rfl (by decide) rfl rfl (pa_cons (pe_cn D.order hr6 (by rfl) (pa_cons (pv 0) (pa_cons (pv 1) pa_nil))) (pa_cons (pe_cn D.order hr6 (by rfl) (pa_cons (pv 0) (pa_cons (pv 1) pa_nil))) pa_nil)) (by rfl))
      (pss_cons (ps_set (i := 4) sc_right.nd rfl (Or.inl rfl) (pe_tupF (by rfl) D.B.b.tuple (pe_cn D.mixed hr6 (by rfl) (pa_cons (pv 0) (pa_cons (pe_listRg rfl (by rfl) D.B.b.list (prg_2 (by rfl) D.B.b.range pe_int pe_int)) pa_nil)))))
      (pss_cons (ps_if (PW.pt (pw_or (pt_not (pt_val (pe_cnG C1 hg hr (by rfl) (pa_cons (pv 0) (pa_cons (pv 2) pa_nil))))) (pw_or1 (pt_not (pt_val (pe_cnG C1 hg hr (by rfl) (pa_cons (pv 0) (pa_cons (pv 4) pa_nil))))))))
        (pss_one (ps_ret pe_bl)) pss_nil)
      (pss_cons (ps_for PassesOwn.never rfl (pi_list (pe_cn D.wrong hr6 (by rfl) (pa_cons (pv 2) pa_nil))) (pg_tup rfl (pgs_cons (pg_name (i := 5) sc_right.nd rfl (Or.inl rfl)) (pgs_cons (pg_name (i := 6) sc_right.nd rfl (Or.inl rfl)) pgs_nil)))
        (pss_one (ps_if (PW.pt (pw_or (pt_not (pt_val (pe_cnG C2 hg hr (by rfl) (pa_cons (pv 0) (pa_cons (pe_cn D.moved hr6 (by rfl) (pa_cons (pv 2) (pa_cons (pv 5) (pa_cons (pv 6) pa_nil)))) (pa_cons (pv 2) pa_nil)))))) (pw_or1 (pt_not (pt_val (pe_cnG C2 hg hr (by rfl) (pa_cons (pv 0) (pa_cons (pv 2) (pa_cons (pe_cn D.moved hr6 (by rfl) (pa_cons (pv 2) (pa_cons (pv 5) (pa_cons (pv 6) pa_nil)))) pa_nil)))))))))
        (pss_one (ps_ret pe_bl)) pss_nil)))
      (pss_one (ps_ret (pe_and (pe_cnG C2 hg hr (by rfl) (pa_cons (pv 0) (pa_cons (pv 2) (pa_cons (pv 3) pa_nil)))) (pe_and (pe_cnG C2 hg hr (by rfl) (pa_cons (pv 0) (pa_cons (pv 3) (pa_cons (pv 2) pa_nil)))) (pe_one (pe_cmpR op_isN (pe_cn D.over hr6 (by rfl) (pa_cons (pv 2) (pa_cons (pv 2) pa_nil))) pe_non (nomark _)))))))))))), ?_⟩
    refine ⟨.ref q, rfl, q, 6, rfl, by decide, by decide, pt, ht, fun H1 d c1 hd => ⟨1, _, rfl, rfl, ?_⟩⟩
    have en : (1 : Int) + (d : Int) = ((d + 1 : Nat) : Int) := by omega
    refine ⟨.ref q, rfl, .int (1 + (d : Int)), rfl, q, d + 1, ?_, by omega, by omega, c1.pot, c1.tab, fun H2 a o c2 ha io lo => ?_⟩
    · show [V.ref q, V.int (1 + (d : Int))] = _
      rw [en]
    have m2 := c1.trans c2
    refine ⟨.ref q, rfl, .int (1 + (d : Int)), rfl, q, d + 1, ?_, by omega, by omega, c2.pot, c2.tab, fun H3 b p c3 hb ip lp => ⟨_, _, rfl, ?_⟩⟩
    · show [V.ref q, V.int (1 + (d : Int))] = _
      rw [en]
    have m3 := m2.trans c3
    have ha3 := c3.seqT c2.tab c2.pot ha
    have b9 := io.hi
    -- nine
    refine ⟨.ref q, rfl, 1, 10, rfl, rfl, RgOk.of_le (by omega) (by omega) (by omega) (by omega), fun L hL => ?_⟩
    rw [show (10 : Int) = ((9 : Nat) : Int) + 1 from rfl, rg_vl]
    have g4 := Go.new (o := .lst (vl (List.range' 1 9))) m3.tab hL
    have m4 := m3.then g4
    refine ⟨q, L, List.range' 1 9, rfl, .inl (SqL.of upd_same), by decide, m3.pot.ne hL, m4.pot, m4.tab, fun H5 u l5 c5 hu eu per => ?_⟩
    refine ⟨false, u, vl l5, rfl, eu, fun z => (nomatch z), fun _ x ob hod hx => ?_⟩
    have i5 : IsOrd l5 := by
      have len : l5.length = 9 := by
        rw [per.length_eq, List.length_range']
      exact ⟨by omega, by omega, by rw [len]; exact per⟩
    have g6 := Go.new (o := .frz ob (.tup (vl l5))) c5.tab hx
    have c6 := c5.then g6
    have m6 := m4.trans c6
    have hx6 : SqT K (upd H5 x (.frz ob (.tup (vl l5)))) x (vl l5) := .inl (.inr ⟨ob, upd_same⟩)
    have ha6 := c6.seqT m4.tab m4.pot (g4.seqT m3.tab ha3)
    have hb6 := c6.seqT m4.tab m4.pot (g4.seqT m3.tab hb)
    generalize upd H5 x (.frz ob (.tup (vl l5))) = H6 at m6 hx6 ha6 hb6 ⊢
    -- both tables
    refine ⟨.ref q, rfl, .ref a, rfl, q, a, o, rfl, ha6, io, m6.pot, m6.tab, fun H7 c7 => ⟨true, rfl, iteF ?_⟩⟩
    refine ⟨.ref q, rfl, .ref x, rfl, q, x, l5, rfl, c7.seqT m6.tab m6.pot hx6, i5, c7.pot, c7.tab, fun H8 c8 => ⟨true, rfl, iteF ?_⟩⟩
    have m8 := m6.trans (c7.trans c8)
    have ha8 := (c7.trans c8).seqT m6.tab m6.pot ha6
    have hb8 := (c7.trans c8).seqT m6.tab m6.pot hb6
    -- the wrong pairs
    refine ⟨.ref a, rfl, a, o, rfl, .inr ha8, b9, m8.tab, fun H9 wv ws g9 hw ew pw => ?_⟩
    have m9 := m8.then g9
    have ha9 := g9.seqT m8.tab ha8
    have hb9 := g9.seqT m8.tab hb8
    have tS := m9.tab
    have lws := Paired.length pw
    refine ⟨wv, rfl, ⟨_, SqL.of ew⟩, ?_⟩
    refine for_list (xs := ws.map V.ref) (fun i σ H10 => ∃ nv fv : Option V, σ = [some (.ref q), some (.int (1 + (d : Int))), some (.ref a), some (.ref b), some (.ref x), nv, fv] ∧ Go T H9 H10) ⟨none, none, rfl, Go.refl tS⟩ (fun i σ H10 _ ⟨_, _, _, g⟩ => SqL.of (g.lst tS ew)) ?_ ?_
    · rintro i y σ H10 hy ⟨nv, fv, rfl, g10⟩
      rw [List.getElem?_map] at hy
      obtain ⟨ti, hti, rfl⟩ := Option.map_eq_some_iff.mp hy
      obtain ⟨mk, hmk, eti⟩ := Paired.getL pw hti
      obtain ⟨hi, hj⟩ := wps_lt (List.mem_of_getElem? hmk)
      have ix := ord_exch io hi hj
      have lx : (exch o mk.1 mk.2).length = o.length := len_exch o mk.1 mk.2
      have eti10 := g10.2 ti _ (ne_tab tS eti fun _ z => by cases z) eti
      have ha10 := g10.seqT tS ha9
      refine ⟨ti, _, rfl, SqT.of eti10, rfl, _, _, rfl, _, _, rfl, rfl, ?_⟩
      refine ⟨.ref q, rfl, .ref a, rfl, .int (mk.1 : Int), rfl, .int (mk.2 : Int), rfl, a, o, mk.1, mk.2, rfl, ha10, hi, hj, g10.1, fun H11 y1 g11 _ ey1 => ?_⟩
      refine ⟨.ref a, rfl, q, y1, a, exch o mk.1 mk.2, o, rfl, ey1.sqT, g11.seqT g10.1 ha10, ix, io, lx, g11.1, fun H12 g12 => ⟨true, rfl, iteF ?_⟩⟩
      have g112 := g11.trans g12
      have ha12 := g112.seqT g10.1 ha10
      refine ⟨.ref q, rfl, .ref a, rfl, .ref a, rfl, .int (mk.1 : Int), rfl, .int (mk.2 : Int), rfl, a, o, mk.1, mk.2, rfl, ha12, hi, hj, g112.1, fun H13 y2 g13 _ ey2 => ?_⟩
      refine ⟨q, a, y2, o, exch o mk.1 mk.2, rfl, g13.seqT g112.1 ha12, ey2.sqT, io, ix, lx.symm, g13.1, fun H14 g14 => ⟨true, rfl, iteF ?_⟩⟩
      exact ⟨_, _, rfl, g10.trans (g112.trans (g13.trans g14))⟩
    · rintro σ H10 ⟨nv, fv, rfl, g10⟩
      have el : o.length = p.length := by rw [lo, lp]
      have ha10 := g10.seqT tS ha9
      have hb10 := g10.seqT tS hb9
      refine ⟨.ref q, rfl, .ref a, rfl, .ref b, rfl, q, a, b, o, p, rfl, ha10, hb10, io, ip, el, g10.1, fun H11 g11 => ⟨true, rfl, iteT ?_⟩⟩
      refine ⟨.ref q, rfl, .ref b, rfl, .ref a, rfl, q, b, a, p, o, rfl, g11.seqT g10.1 hb10, g11.seqT g10.1 ha10, ip, io, el.symm, g11.1, fun H12 g12 => ⟨true, rfl, iteT ?_⟩⟩
      have g112 := g11.trans g12
      have ha12 := g112.seqT g10.1 ha10
      refine ⟨.ref a, rfl, .ref a, rfl, a, a, o, o, rfl, .inr ha12, .inr ha12, io, io, rfl, g112.1, fun H13 v g13 ov => ⟨rfl, ?_⟩⟩
      rw [over_self] at ov
      cases (show v = .non from ov)
      exact k _ ((m9.then g10).then (g112.trans g13))

def spLaw (K : PySem.W.Frag) (T : Addr → Prop) : Sp := fun vs H Q _ => ∃ (a : Addr) (ns : List Int), vs = [.ref a] ∧ SqL K H a (ns.map V.int) ∧ ns.length ≤ 63 ∧ Tabs H T ∧ ∀ H', Q (.bl true) H'
theorem ok_law {f : Addr} {fd : FuncData} (F : Fun K "law" "law" s_law f fd) (D : Defs P w K mg base T) (C : CnG P w K mg base 8 "_law_right" ["_law_pot_here"] (spRt T)) :
    FnG P w K mg base 9 f fd ["_law_script"] (spLaw K T) := by
  refine okG F sc_law (fun vs H Q E h => ?_) (fun cdv A outer s H vs Q E hg hr h => ?_)
  · obtain ⟨a, ns, rfl, _⟩ := h
    rfl
  · obtain ⟨a, ns, rfl, ha, hl, ht, k⟩ := h
    have hr6 : Room 6 (A.deeper (envOfC "law" (defScope s_law) s.heap.objs.size f cdv)) := hr.mono (by decide)
    refine ⟨_, (pss_one (ps_ret (pe_callB (cr_all rfl) (by rfl) D.B.b.all (by decide +kernel) (pa_cons (pe_lc (own := [("_law_k", 1)]) (g := gName 1) (tt := tYes) (by rfl) sc_law.nd (pi_range1 (by rfl) D.B.b.range (pa_cons (pe_callB (call_max2 rfl) (by rfl) D.B.max (by decide +kernel) (pa_cons pe_int (pa_cons (pe_callB (call_min2 rfl) (by rfl) D.B.min (by decide +kernel) (pa_cons (pe_callB call_len_seq (by rfl) D.B.b.len PySem.boot_len (pa_cons (pv 0) pa_nil)) (pa_cons pe_int pa_nil))) pa_nil))) pa_nil)) (blkOk_by (by rfl)) (fun _ _ _ _ _ => (pg_name (i := 1) sc_law.nd rfl (Or.inl rfl))) (fun _ _ _ _ _ => pts_nil) (fun _ _ _ _ _ => (pe_cnG C hg hr (by rfl) (pa_cons (pe_cn D.pot hr6 (by rfl) (pa_cons (pv 0) (pa_cons (pv 1) pa_nil))) pa_nil)))) pa_nil)))), ?_⟩
    refine ⟨.ref a, rfl, a, _, rfl, .inl ha, _, 2, rfl, 1, _, rfl, ?_⟩
    rw [List.length_map]
    obtain ⟨n, e, hn⟩ : ∃ n : Nat, (if (if 2 < (ns.length : Int) then 2 else (ns.length : Int)) > 1 then (if 2 < (ns.length : Int) then 2 else (ns.length : Int)) else 1) = (n : Int) ∧ n ≤ 2 := by
      by_cases h3 : 2 < (ns.length : Int)
      · rw [if_pos h3, if_pos (by decide)]
        exact ⟨2, rfl, by decide⟩
      · rw [if_neg h3]
        by_cases h1 : (ns.length : Int) > 1
        · rw [if_pos h1]
          exact ⟨ns.length, rfl, by omega⟩
        · rw [if_neg h1]
          exact ⟨1, rfl, by decide⟩
    rw [e]
    refine ⟨(n : Int), rfl, by omega, by omega, fun L hL => ?_⟩
    refine lc_range (lo := 0) (n := ((n : Int)).toNat) (fun i H2 => Go T H H2 ∧ H2 L = some (.lst ((List.replicate i true).map V.bl))) ⟨Go.new ht hL, upd_same⟩ (fun i H2 hi m => ?_) (fun H2 m => ?_)
    · obtain ⟨g, eL⟩ := m
      refine ⟨rfl, .ref a, rfl, .int (0 + (i : Int)), rfl, a, ns, i, ?_, g.seqL ht ha, hl, by omega, g.1, fun H3 q g3 hq pq => ?_⟩
      · rw [Int.zero_add]
        rfl
      · have g3' := g.trans g3
        have hq0 := g.free hq
        refine ⟨q, rfl, pq, g3.1, fun H4 c4 => ?_⟩
        have g4 := c4.go g3' hq0
        have qL : L ≠ q := fun z => by
          rw [z, hq] at eL
          cases eL
        have eL4 := c4.lst g3.1 qL (g3.lst g.1 eL)
        refine ⟨_, eL4, by rw [List.length_map, List.length_replicate]; exact small9 (by omega), g4.put hL ht, ?_⟩
        rw [upd_same, List.replicate_succ', List.map_append]
        rfl
    · obtain ⟨g, eL⟩ := m
      refine ⟨L, List.replicate ((n : Int)).toNat true, rfl, SqL.of eL, ?_⟩
      rw [all_true]
      exact k H2
end
end Lb

set_option Elab.async false
set_option linter.all false
set_option maxRecDepth 100000
set_option maxHeartbeats 8000000
namespace Lb
open PySem PySem.Spec PyProof.Rows L2

section
variable {K : PySem.W.Frag} {mg : Str → Option Value} {h : Heap} {x : Str} {st : Stmt} {ps : List Str} {f : Addr} {oc : Value} {od an : Option Addr} {osl : Array (Option Value)} {kV doc pm cdv ct : Value}
theorem df_mk (X : K.In h) (G : h.Ns mainGlobals mg)
    (b : ∀ (kV doc pm : Value) (an : Option Addr) (cdv ct : Value) (us : List Value), us.length = ps.length → bindArgs (PySem.W.fnOf x x (defArgs st) (defBody st) (defScope st) .none kV doc pm an cdv ct) ⟨us, []⟩ = pure (ps.zip us))
    (a : PySem.W.nsIn K mainGlobals x = some (some (.ref f))) (l : K.lookup f = some ⟨oc, od, .func (PySem.W.fnOf x x (defArgs st) (defBody st) (defScope st) .none kV doc pm an cdv ct), osl⟩) (c : PySem.W.codeIn K cdv x = true) (k : PySem.W.keepIn K (.ref f) = true) :
    Df K mg x st ps f (PySem.W.fnOf x x (defArgs st) (defBody st) (defScope st) .none kV doc pm an cdv ct) := ⟨fun_mk l c k, PySem.W.mg_of X G a, (fun_mk l c k).binds b⟩
end
section
variable {K : PySem.W.Frag} {x : Str} {st : Stmt} {f : Addr} {fd : FuncData}
theorem kb_one {p : Str} (F : Fun K x x st f fd)
    (b : ∀ (kV doc pm : Value) (an : Option Addr) (cdv ct a : Value), bindArgs (PySem.W.fnOf x x (defArgs st) (defBody st) (defScope st) .none kV doc pm an cdv ct) ⟨[], [(p, a)]⟩ = pure [(p, a)]) : KBinds K fd [p] [p] kw1 kw1 := by
  obtain ⟨oc, od, kV, doc, pm, an, cdv, ct, osl, rfl, lk, hcd⟩ := F.ex
  exact ⟨fun s us ws _ hl => match us, ws, hl with
    | [], [a], _ => .of_eq (b kV doc pm an cdv ct a), kw1_rel⟩
theorem kb_two {p r : Str} (F : Fun K x x st f fd)
    (b : ∀ (kV doc pm : Value) (an : Option Addr) (cdv ct a c : Value), bindArgs (PySem.W.fnOf x x (defArgs st) (defBody st) (defScope st) .none kV doc pm an cdv ct) ⟨[], [(r, a), (p, c)]⟩ = pure [(p, c), (r, a)]) : KBinds K fd [p, r] [r, p] kw2 kw2 := by
  obtain ⟨oc, od, kV, doc, pm, an, cdv, ct, osl, rfl, lk, hcd⟩ := F.ex
  exact ⟨fun s us ws _ hl => match us, ws, hl with
    | [], [a, c], _ => .of_eq (b kV doc pm an cdv ct a c), kw2_rel⟩
end

section
variable {P : Program} {w : World} {K : PySem.W.Frag} {mg : Str → Option Value} {base : Heap} {c1 c2 t1 t2 : Addr}
/-- the code tables -/
def Ts (t1 t2 : Addr) : Addr → Prop := fun b => b = t1 ∨ b = t2
theorem law_fn {fO fI fIL fW fAW fTO fIP fC fCH fCC fCT fCN fAC fOV fLB fBL fL1 fL2 fL3 fL4 fL5 fL6 fL7 fL8 fL9 fL10 fL11 fL12 fM1 fM2 fM3 fM5 : Addr} {dO dI dIL dW dAW dTO dIP dC dCH dCC dCT dCN dAC dOV dLB dBL dL1 dL2 dL3 dL4 dL5 dL6 dL7 dL8 dL9 dL10 dL11 dL12 dM1 dM2 dM3 dM5 : FuncData}
    (o1 : dO.code = .ref c1) (T1 : GxR.TabB base mg c1 t1) (o2 : dAW.code = .ref c2) (T2 : GxR.TabB base mg c2 t2) (N : ∃ t, mg "MOST_THINGS" = some (.int 9 t)) (B : Bl2 mg) (ms : mg "sum" = none) (mz : mg "zip" = none)
    (O : Df K mg "is_order" s_is_order ["value"] fO dO)
    (I : Df K mg "is_integer" s_is_integer ["value"] fI dI)
    (IL : Df K mg "is_list" s_is_list ["value"] fIL dIL)
    (W : Df K mg "is_within_bounds" s_is_within_bounds ["value", "low", "high"] fW dW)
    (AW : Df K mg "are_within_bounds" s_awb ["value", "low", "high"] fAW dAW)
    (TO : Df K mg "is_tuple_of" s_is_tuple_of ["value", "size"] fTO dTO)
    (IP : Df K mg "is_pair" s_is_pair ["value", "low", "high"] fIP dIP)
    (C : Df K mg "check_order" s_check_order ["order"] fC dC)
    (CH : Df K mg "check_orders" s_check_orders ["order", "other"] fCH dCH)
    (CC : Df K mg "check_corner" s_check_corner ["size", "corner"] fCC dCC)
    (CT : Df K mg "corner_table" s_corner_table ["order"] fCT dCT)
    (CN : Df K mg "counted" s_counted ["order", "corner"] fCN dCN)
    (AC : Df K mg "all_corners" s_all_corners ["size"] fAC dAC)
    (OV : Df K mg "over" s_over ["order", "other"] fOV dOV)
    (LB : Df K mg "lies_below" s_lies_below ["order", "other"] fLB dLB)
    (BL : Df K mg "is_below" s_is_below ["order", "other"] fBL dBL)
    (L1 : Df K mg "_law_pot" s_pot ["_law_script", "_law_k"] fL1 dL1)
    (L2 : Df K mg "_law_draw" s_draw ["_law_pot_here", "_law_many"] fL2 dL2)
    (L3 : Df K mg "_law_pick" s_pick ["_law_pot_here", "_law_some"] fL3 dL3)
    (L4 : Df K mg "_law_mixed" s_mixed ["_law_pot_here", "_law_some"] fL4 dL4)
    (L5 : Df K mg "_law_order" s_order ["_law_pot_here", "_law_size"] fL5 dL5)
    (L6 : Df K mg "_law_as" s_as ["_law_pot_here", "_law_order_here"] fL6 dL6)
    (L7 : Df K mg "_law_moved" s_moved ["_law_order_here", "_law_first", "_law_second"] fL7 dL7)
    (L8 : Df K mg "_law_wrong" s_lwrong ["_law_order_here"] fL8 dL8)
    (L9 : Df K mg "_law_count" s_lcount ["_law_order_here", "_law_corner"] fL9 dL9)
    (L10 : Df K mg "_law_corners" s_lcorners ["_law_size"] fL10 dL10)
    (L11 : Df K mg "_law_table" s_ltable ["_law_order_here"] fL11 dL11)
    (L12 : Df K mg "_law_over" s_lover ["_law_one", "_law_two"] fL12 dL12)
    (M1 : Df K mg "_law_table_right" s_table_right ["_law_pot_here", "_law_order_here"] fM1 dM1)
    (M2 : Df K mg "_law_pair_right" s_pair_right ["_law_pot_here", "_law_one", "_law_two"] fM2 dM2)
    (M3 : Df K mg "_law_right" s_right ["_law_pot_here"] fM3 dM3)
    (M5 : Df K mg "law" s_law ["_law_script"] fM5 dM5)
    (k1 : KBinds K dCT ["order"] ["order"] kw1 kw1) (k2 : KBinds K dCN ["order", "corner"] ["corner", "order"] kw2 kw2) (k3 : KBinds K dOV ["order", "other"] ["other", "order"] kw2 kw2) :
    FnG P w K mg base 9 fM5 dM5 ["_law_script"] (spLaw K (Ts t1 t2)) := by
  have io : Io K mg base (Ts t1 t2) c1 fO fI dO dI := ⟨O, o1, ⟨t1, .inl rfl, T1⟩, I, N, B.b⟩
  have ga : FnOk P w K mg base CX0 2 fAW dAW ["value", "low", "high"] (spAwb K (Ts t1 t2)) := ok_awb AW.fn o2 (.inr rfl) T2 IL W I B.b
  have gp : FnOk P w K mg base CX0 3 fIP dIP ["value", "low", "high"] (spPair K (Ts t1 t2)) := ok_is_pair IP.fn TO AW ga B.b
  have gcc : FnOk P w K mg base CX0 4 fCC dCC ["size", "corner"] (spCorner K (Ts t1 t2)) := ok_check_corner CC.fn IP gp
  have ct : FnOk P w K mg base CX0 6 fCT dCT ["order"] (spTab K (Ts t1 t2)) := (ok_corner_table CT.fn C io B.enumerate).mono (by decide)
  have cn : FnOk P w K mg base CX0 6 fCN dCN ["order", "corner"] (spCnt K (Ts t1 t2)) := (ok_counted CN.fn C io CC gcc).mono (by decide)
  have ov0 : FnOk P w K mg base CX0 5 fOV dOV ["order", "other"] (spOver K (Ts t1 t2)) := ok_over OV.fn CH CT AC C io B.enumerate
  have ov : FnOk P w K mg base CX0 6 fOV dOV ["order", "other"] (spOv K (Ts t1 t2)) := (ov0.mono (by decide)).imp ov_imp
  have bl : FnOk P w K mg base CX0 6 fBL dBL ["order", "other"] (spBelow K (Ts t1 t2)) := ok_is_below BL.fn CH LB C io mz
  have dr : FnOk P w K mg base CX0 2 fL2 dL2 ["_law_pot_here", "_law_many"] (spDraw (Ts t1 t2)) := (ok_draw L2.fn B).mono (by decide)
  have pk : FnOk P w K mg base CX0 2 fL3 dL3 ["_law_pot_here", "_law_some"] (spPick (Ts t1 t2)) := ok_pick L3.fn L2 B
  have mx : FnOk P w K mg base CX0 2 fL4 dL4 ["_law_pot_here", "_law_some"] (spMixed K (Ts t1 t2)) := ok_mixed L4.fn L2 B
  have od : FnOk P w K mg base CX0 6 fL5 dL5 ["_law_pot_here", "_law_size"] (spOrder K (Ts t1 t2)) := (ok_order L5.fn (L2.cn dr) (L3.cn pk) (L4.cn mx) B).mono (by decide)
  have lc : FnOk P w K mg base CX0 1 fL9 dL9 ["_law_order_here", "_law_corner"] (spLcnt K (Ts t1 t2)) := ok_lcount L9.fn B ms
  have lcs : FnOk P w K mg base CX0 1 fL10 dL10 ["_law_size"] (spLcs (Ts t1 t2)) := ok_lcorners L10.fn B
  have lt : FnOk P w K mg base CX0 6 fL11 dL11 ["_law_order_here"] (spLtab K (Ts t1 t2)) := (ok_ltable L11.fn (L9.cn lc) B).mono (by decide)
  have lo : FnOk P w K mg base CX0 6 fL12 dL12 ["_law_one", "_law_two"] (spOv K (Ts t1 t2)) := ((ok_lover L12.fn (L10.cn lcs) (L9.cn lc) B).mono (by decide)).imp lov_imp
  have D : Defs P w K mg base (Ts t1 t2) :=
    { tab := CT.cn ct, tabK := CT.cnK ct k1, cnt := CN.cn cn, cntK := CN.cnK cn k2, over := OV.cn ov, overK := OV.cnK ov k3, below := BL.cn bl,
      pot := L1.cn ((ok_pot L1.fn B).mono (by decide)), draw := L2.cn (dr.mono (by decide)), mixed := L4.cn (mx.mono (by decide)), order := L5.cn od, as := L6.cn ((ok_as L6.fn (L2.cn dr) B).mono (by decide)), moved := L7.cn ((ok_moved L7.fn B).mono (by decide)),
      wrong := L8.cn ((ok_lwrong L8.fn B).mono (by decide)), lcnt := L9.cn (lc.mono (by decide)), ltab := L11.cn lt, lover := L12.cn lo, B := B, sum := ms }
  exact ok_law M5.fn D (M3.cnG (ok_right M3.fn D (M1.cnG (ok_table_right M1.fn D)) (M2.cnG (ok_pair_right M2.fn D))))
end
end Lb

set_option Elab.async false
set_option linter.all false
set_option maxRecDepth 100000
set_option maxHeartbeats 8000000
namespace Lb
open PySem PySem.Spec PyProof.Rows L2

theorem all_mk {l : PySem.W.OpenLaw} {q : Program} {w : World} {K : PySem.W.Frag} {h : Heap} {mg : Str → Option Value} {fa : Addr} (X : K.In h) (G : h.Ns mainGlobals mg) (hfa : mg "law" = some (.ref fa))
    (hT : ∀ (y : Str) (dr : DefRec) (c P : Addr), (recsOf q).find? (fun e => e.name == y) = some dr → PySem.W.tabIn K y = some (c, P) → PySem.W.CodeHd h c P ∧ h.get? P = some { cls := .none, data := .fields #[] })
    {dr1 dr2 : DefRec} {c1 t1 c2 t2 : Addr} {tN : Tok}
    {fO : Addr} {ocO kVO docO pmO cdO ctO : Value} {odO anO : Option Addr} {slO : Array (Option Value)}
    {fI : Addr} {ocI kVI docI pmI cdI ctI : Value} {odI anI : Option Addr} {slI : Array (Option Value)}
    {fIL : Addr} {ocIL kVIL docIL pmIL cdIL ctIL : Value} {odIL anIL : Option Addr} {slIL : Array (Option Value)}
    {fW : Addr} {ocW kVW docW pmW cdW ctW : Value} {odW anW : Option Addr} {slW : Array (Option Value)}
    {fAW : Addr} {ocAW kVAW docAW pmAW cdAW ctAW : Value} {odAW anAW : Option Addr} {slAW : Array (Option Value)}
    {fTO : Addr} {ocTO kVTO docTO pmTO cdTO ctTO : Value} {odTO anTO : Option Addr} {slTO : Array (Option Value)}
    {fIP : Addr} {ocIP kVIP docIP pmIP cdIP ctIP : Value} {odIP anIP : Option Addr} {slIP : Array (Option Value)}
    {fC : Addr} {ocC kVC docC pmC cdC ctC : Value} {odC anC : Option Addr} {slC : Array (Option Value)}
    {fCH : Addr} {ocCH kVCH docCH pmCH cdCH ctCH : Value} {odCH anCH : Option Addr} {slCH : Array (Option Value)}
    {fCC : Addr} {ocCC kVCC docCC pmCC cdCC ctCC : Value} {odCC anCC : Option Addr} {slCC : Array (Option Value)}
    {fCT : Addr} {ocCT kVCT docCT pmCT cdCT ctCT : Value} {odCT anCT : Option Addr} {slCT : Array (Option Value)}
    {fCN : Addr} {ocCN kVCN docCN pmCN cdCN ctCN : Value} {odCN anCN : Option Addr} {slCN : Array (Option Value)}
    {fAC : Addr} {ocAC kVAC docAC pmAC cdAC ctAC : Value} {odAC anAC : Option Addr} {slAC : Array (Option Value)}
    {fOV : Addr} {ocOV kVOV docOV pmOV cdOV ctOV : Value} {odOV anOV : Option Addr} {slOV : Array (Option Value)}
    {fLB : Addr} {ocLB kVLB docLB pmLB cdLB ctLB : Value} {odLB anLB : Option Addr} {slLB : Array (Option Value)}
    {fBL : Addr} {ocBL kVBL docBL pmBL cdBL ctBL : Value} {odBL anBL : Option Addr} {slBL : Array (Option Value)}
    {fL1 : Addr} {ocL1 kVL1 docL1 pmL1 cdL1 ctL1 : Value} {odL1 anL1 : Option Addr} {slL1 : Array (Option Value)}
    {fL2 : Addr} {ocL2 kVL2 docL2 pmL2 cdL2 ctL2 : Value} {odL2 anL2 : Option Addr} {slL2 : Array (Option Value)}
    {fL3 : Addr} {ocL3 kVL3 docL3 pmL3 cdL3 ctL3 : Value} {odL3 anL3 : Option Addr} {slL3 : Array (Option Value)}
    {fL4 : Addr} {ocL4 kVL4 docL4 pmL4 cdL4 ctL4 : Value} {odL4 anL4 : Option Addr} {slL4 : Array (Option Value)}
    {fL5 : Addr} {ocL5 kVL5 docL5 pmL5 cdL5 ctL5 : Value} {odL5 anL5 : Option Addr} {slL5 : Array (Option Value)}
    {fL6 : Addr} {ocL6 kVL6 docL6 pmL6 cdL6 ctL6 : Value} {odL6 anL6 : Option Addr} {slL6 : Array (Option Value)}
    {fL7 : Addr} {ocL7 kVL7 docL7 pmL7 cdL7 ctL7 : Value} {odL7 anL7 : Option Addr} {slL7 : Array (Option Value)}
    {fL8 : Addr} {ocL8 kVL8 docL8 pmL8 cdL8 ctL8 : Value} {odL8 anL8 : Option Addr} {slL8 : Array (Option Value)}
    {fL9 : Addr} {ocL9 kVL9 docL9 pmL9 cdL9 ctL9 : Value} {odL9 anL9 : Option Addr} {slL9 : Array (Option Value)}
    {fL10 : Addr} {ocL10 kVL10 docL10 pmL10 cdL10 ctL10 : Value} {odL10 anL10 : Option Addr} {slL10 : Array (Option Value)}
    {fL11 : Addr} {ocL11 kVL11 docL11 pmL11 cdL11 ctL11 : Value} {odL11 anL11 : Option Addr} {slL11 : Array (Option Value)}
    {fL12 : Addr} {ocL12 kVL12 docL12 pmL12 cdL12 ctL12 : Value} {odL12 anL12 : Option Addr} {slL12 : Array (Option Value)}
    {fM1 : Addr} {ocM1 kVM1 docM1 pmM1 cdM1 ctM1 : Value} {odM1 anM1 : Option Addr} {slM1 : Array (Option Value)}
    {fM2 : Addr} {ocM2 kVM2 docM2 pmM2 cdM2 ctM2 : Value} {odM2 anM2 : Option Addr} {slM2 : Array (Option Value)}
    {fM3 : Addr} {ocM3 kVM3 docM3 pmM3 cdM3 ctM3 : Value} {odM3 anM3 : Option Addr} {slM3 : Array (Option Value)}
    {fM5 : Addr} {ocM5 kVM5 docM5 pmM5 cdM5 ctM5 : Value} {odM5 anM5 : Option Addr} {slM5 : Array (Option Value)}
    (aO : PySem.W.nsIn K mainGlobals "is_order" = some (some (.ref fO))) (lO : K.lookup fO = some ⟨ocO, odO, .func (PySem.W.fnOf "is_order" "is_order" (defArgs s_is_order) (defBody s_is_order) (defScope s_is_order) .none kVO docO pmO anO cdO ctO), slO⟩) (cO : PySem.W.codeIn K cdO "is_order" = true) (kO : PySem.W.keepIn K (.ref fO) = true)
    (aI : PySem.W.nsIn K mainGlobals "is_integer" = some (some (.ref fI))) (lI : K.lookup fI = some ⟨ocI, odI, .func (PySem.W.fnOf "is_integer" "is_integer" (defArgs s_is_integer) (defBody s_is_integer) (defScope s_is_integer) .none kVI docI pmI anI cdI ctI), slI⟩) (cI : PySem.W.codeIn K cdI "is_integer" = true) (kI : PySem.W.keepIn K (.ref fI) = true)
    (aIL : PySem.W.nsIn K mainGlobals "is_list" = some (some (.ref fIL))) (lIL : K.lookup fIL = some ⟨ocIL, odIL, .func (PySem.W.fnOf "is_list" "is_list" (defArgs s_is_list) (defBody s_is_list) (defScope s_is_list) .none kVIL docIL pmIL anIL cdIL ctIL), slIL⟩) (cIL : PySem.W.codeIn K cdIL "is_list" = true) (kIL : PySem.W.keepIn K (.ref fIL) = true)
    (aW : PySem.W.nsIn K mainGlobals "is_within_bounds" = some (some (.ref fW))) (lW : K.lookup fW = some ⟨ocW, odW, .func (PySem.W.fnOf "is_within_bounds" "is_within_bounds" (defArgs s_is_within_bounds) (defBody s_is_within_bounds) (defScope s_is_within_bounds) .none kVW docW pmW anW cdW ctW), slW⟩) (cW : PySem.W.codeIn K cdW "is_within_bounds" = true) (kW : PySem.W.keepIn K (.ref fW) = true)
    (aAW : PySem.W.nsIn K mainGlobals "are_within_bounds" = some (some (.ref fAW))) (lAW : K.lookup fAW = some ⟨ocAW, odAW, .func (PySem.W.fnOf "are_within_bounds" "are_within_bounds" (defArgs s_awb) (defBody s_awb) (defScope s_awb) .none kVAW docAW pmAW anAW cdAW ctAW), slAW⟩) (cAW : PySem.W.codeIn K cdAW "are_within_bounds" = true) (kAW : PySem.W.keepIn K (.ref fAW) = true)
    (aTO : PySem.W.nsIn K mainGlobals "is_tuple_of" = some (some (.ref fTO))) (lTO : K.lookup fTO = some ⟨ocTO, odTO, .func (PySem.W.fnOf "is_tuple_of" "is_tuple_of" (defArgs s_is_tuple_of) (defBody s_is_tuple_of) (defScope s_is_tuple_of) .none kVTO docTO pmTO anTO cdTO ctTO), slTO⟩) (cTO : PySem.W.codeIn K cdTO "is_tuple_of" = true) (kTO : PySem.W.keepIn K (.ref fTO) = true)
    (aIP : PySem.W.nsIn K mainGlobals "is_pair" = some (some (.ref fIP))) (lIP : K.lookup fIP = some ⟨ocIP, odIP, .func (PySem.W.fnOf "is_pair" "is_pair" (defArgs s_is_pair) (defBody s_is_pair) (defScope s_is_pair) .none kVIP docIP pmIP anIP cdIP ctIP), slIP⟩) (cIP : PySem.W.codeIn K cdIP "is_pair" = true) (kIP : PySem.W.keepIn K (.ref fIP) = true)
    (aC : PySem.W.nsIn K mainGlobals "check_order" = some (some (.ref fC))) (lC : K.lookup fC = some ⟨ocC, odC, .func (PySem.W.fnOf "check_order" "check_order" (defArgs s_check_order) (defBody s_check_order) (defScope s_check_order) .none kVC docC pmC anC cdC ctC), slC⟩) (cC : PySem.W.codeIn K cdC "check_order" = true) (kC : PySem.W.keepIn K (.ref fC) = true)
    (aCH : PySem.W.nsIn K mainGlobals "check_orders" = some (some (.ref fCH))) (lCH : K.lookup fCH = some ⟨ocCH, odCH, .func (PySem.W.fnOf "check_orders" "check_orders" (defArgs s_check_orders) (defBody s_check_orders) (defScope s_check_orders) .none kVCH docCH pmCH anCH cdCH ctCH), slCH⟩) (cCH : PySem.W.codeIn K cdCH "check_orders" = true) (kCH : PySem.W.keepIn K (.ref fCH) = true)
    (aCC : PySem.W.nsIn K mainGlobals "check_corner" = some (some (.ref fCC))) (lCC : K.lookup fCC = some ⟨ocCC, odCC, .func (PySem.W.fnOf "check_corner" "check_corner" (defArgs s_check_corner) (defBody s_check_corner) (defScope s_check_corner) .none kVCC docCC pmCC anCC cdCC ctCC), slCC⟩) (cCC : PySem.W.codeIn K cdCC "check_corner" = true) (kCC : PySem.W.keepIn K (.ref fCC) = true)
    (aCT : PySem.W.nsIn K mainGlobals "corner_table" = some (some (.ref fCT))) (lCT : K.lookup fCT = some ⟨ocCT, odCT, .func (PySem.W.fnOf "corner_table" "corner_table" (defArgs s_corner_table) (defBody s_corner_table) (defScope s_corner_table) .none kVCT docCT pmCT anCT cdCT ctCT), slCT⟩) (cCT : PySem.W.codeIn K cdCT "corner_table" = true) (kCT : PySem.W.keepIn K (.ref fCT) = true)
    (aCN : PySem.W.nsIn K mainGlobals "counted" = some (some (.ref fCN))) (lCN : K.lookup fCN = some ⟨ocCN, odCN, .func (PySem.W.fnOf "counted" "counted" (defArgs s_counted) (defBody s_counted) (defScope s_counted) .none kVCN docCN pmCN anCN cdCN ctCN), slCN⟩) (cCN : PySem.W.codeIn K cdCN "counted" = true) (kCN : PySem.W.keepIn K (.ref fCN) = true)
    (aAC : PySem.W.nsIn K mainGlobals "all_corners" = some (some (.ref fAC))) (lAC : K.lookup fAC = some ⟨ocAC, odAC, .func (PySem.W.fnOf "all_corners" "all_corners" (defArgs s_all_corners) (defBody s_all_corners) (defScope s_all_corners) .none kVAC docAC pmAC anAC cdAC ctAC), slAC⟩) (cAC : PySem.W.codeIn K cdAC "all_corners" = true) (kAC : PySem.W.keepIn K (.ref fAC) = true)
    (aOV : PySem.W.nsIn K mainGlobals "over" = some (some (.ref fOV))) (lOV : K.lookup fOV = some ⟨ocOV, odOV, .func (PySem.W.fnOf "over" "over" (defArgs s_over) (defBody s_over) (defScope s_over) .none kVOV docOV pmOV anOV cdOV ctOV), slOV⟩) (cOV : PySem.W.codeIn K cdOV "over" = true) (kOV : PySem.W.keepIn K (.ref fOV) = true)
    (aLB : PySem.W.nsIn K mainGlobals "lies_below" = some (some (.ref fLB))) (lLB : K.lookup fLB = some ⟨ocLB, odLB, .func (PySem.W.fnOf "lies_below" "lies_below" (defArgs s_lies_below) (defBody s_lies_below) (defScope s_lies_below) .none kVLB docLB pmLB anLB cdLB ctLB), slLB⟩) (cLB : PySem.W.codeIn K cdLB "lies_below" = true) (kLB : PySem.W.keepIn K (.ref fLB) = true)
    (aBL : PySem.W.nsIn K mainGlobals "is_below" = some (some (.ref fBL))) (lBL : K.lookup fBL = some ⟨ocBL, odBL, .func (PySem.W.fnOf "is_below" "is_below" (defArgs s_is_below) (defBody s_is_below) (defScope s_is_below) .none kVBL docBL pmBL anBL cdBL ctBL), slBL⟩) (cBL : PySem.W.codeIn K cdBL "is_below" = true) (kBL : PySem.W.keepIn K (.ref fBL) = true)
    (aL1 : PySem.W.nsIn K mainGlobals "_law_pot" = some (some (.ref fL1))) (lL1 : K.lookup fL1 = some ⟨ocL1, odL1, .func (PySem.W.fnOf "_law_pot" "_law_pot" (defArgs s_pot) (defBody s_pot) (defScope s_pot) .none kVL1 docL1 pmL1 anL1 cdL1 ctL1), slL1⟩) (cL1 : PySem.W.codeIn K cdL1 "_law_pot" = true) (kL1 : PySem.W.keepIn K (.ref fL1) = true)
    (aL2 : PySem.W.nsIn K mainGlobals "_law_draw" = some (some (.ref fL2))) (lL2 : K.lookup fL2 = some ⟨ocL2, odL2, .func (PySem.W.fnOf "_law_draw" "_law_draw" (defArgs s_draw) (defBody s_draw) (defScope s_draw) .none kVL2 docL2 pmL2 anL2 cdL2 ctL2), slL2⟩) (cL2 : PySem.W.codeIn K cdL2 "_law_draw" = true) (kL2 : PySem.W.keepIn K (.ref fL2) = true)
    (aL3 : PySem.W.nsIn K mainGlobals "_law_pick" = some (some (.ref fL3))) (lL3 : K.lookup fL3 = some ⟨ocL3, odL3, .func (PySem.W.fnOf "_law_pick" "_law_pick" (defArgs s_pick) (defBody s_pick) (defScope s_pick) .none kVL3 docL3 pmL3 anL3 cdL3 ctL3), slL3⟩) (cL3 : PySem.W.codeIn K cdL3 "_law_pick" = true) (kL3 : PySem.W.keepIn K (.ref fL3) = true)
    (aL4 : PySem.W.nsIn K mainGlobals "_law_mixed" = some (some (.ref fL4))) (lL4 : K.lookup fL4 = some ⟨ocL4, odL4, .func (PySem.W.fnOf "_law_mixed" "_law_mixed" (defArgs s_mixed) (defBody s_mixed) (defScope s_mixed) .none kVL4 docL4 pmL4 anL4 cdL4 ctL4), slL4⟩) (cL4 : PySem.W.codeIn K cdL4 "_law_mixed" = true) (kL4 : PySem.W.keepIn K (.ref fL4) = true)
    (aL5 : PySem.W.nsIn K mainGlobals "_law_order" = some (some (.ref fL5))) (lL5 : K.lookup fL5 = some ⟨ocL5, odL5, .func (PySem.W.fnOf "_law_order" "_law_order" (defArgs s_order) (defBody s_order) (defScope s_order) .none kVL5 docL5 pmL5 anL5 cdL5 ctL5), slL5⟩) (cL5 : PySem.W.codeIn K cdL5 "_law_order" = true) (kL5 : PySem.W.keepIn K (.ref fL5) = true)
    (aL6 : PySem.W.nsIn K mainGlobals "_law_as" = some (some (.ref fL6))) (lL6 : K.lookup fL6 = some ⟨ocL6, odL6, .func (PySem.W.fnOf "_law_as" "_law_as" (defArgs s_as) (defBody s_as) (defScope s_as) .none kVL6 docL6 pmL6 anL6 cdL6 ctL6), slL6⟩) (cL6 : PySem.W.codeIn K cdL6 "_law_as" = true) (kL6 : PySem.W.keepIn K (.ref fL6) = true)
    (aL7 : PySem.W.nsIn K mainGlobals "_law_moved" = some (some (.ref fL7))) (lL7 : K.lookup fL7 = some ⟨ocL7, odL7, .func (PySem.W.fnOf "_law_moved" "_law_moved" (defArgs s_moved) (defBody s_moved) (defScope s_moved) .none kVL7 docL7 pmL7 anL7 cdL7 ctL7), slL7⟩) (cL7 : PySem.W.codeIn K cdL7 "_law_moved" = true) (kL7 : PySem.W.keepIn K (.ref fL7) = true)
    (aL8 : PySem.W.nsIn K mainGlobals "_law_wrong" = some (some (.ref fL8))) (lL8 : K.lookup fL8 = some ⟨ocL8, odL8, .func (PySem.W.fnOf "_law_wrong" "_law_wrong" (defArgs s_lwrong) (defBody s_lwrong) (defScope s_lwrong) .none kVL8 docL8 pmL8 anL8 cdL8 ctL8), slL8⟩) (cL8 : PySem.W.codeIn K cdL8 "_law_wrong" = true) (kL8 : PySem.W.keepIn K (.ref fL8) = true)
    (aL9 : PySem.W.nsIn K mainGlobals "_law_count" = some (some (.ref fL9))) (lL9 : K.lookup fL9 = some ⟨ocL9, odL9, .func (PySem.W.fnOf "_law_count" "_law_count" (defArgs s_lcount) (defBody s_lcount) (defScope s_lcount) .none kVL9 docL9 pmL9 anL9 cdL9 ctL9), slL9⟩) (cL9 : PySem.W.codeIn K cdL9 "_law_count" = true) (kL9 : PySem.W.keepIn K (.ref fL9) = true)
    (aL10 : PySem.W.nsIn K mainGlobals "_law_corners" = some (some (.ref fL10))) (lL10 : K.lookup fL10 = some ⟨ocL10, odL10, .func (PySem.W.fnOf "_law_corners" "_law_corners" (defArgs s_lcorners) (defBody s_lcorners) (defScope s_lcorners) .none kVL10 docL10 pmL10 anL10 cdL10 ctL10), slL10⟩) (cL10 : PySem.W.codeIn K cdL10 "_law_corners" = true) (kL10 : PySem.W.keepIn K (.ref fL10) = true)
    (aL11 : PySem.W.nsIn K mainGlobals "_law_table" = some (some (.ref fL11))) (lL11 : K.lookup fL11 = some ⟨ocL11, odL11, .func (PySem.W.fnOf "_law_table" "_law_table" (defArgs s_ltable) (defBody s_ltable) (defScope s_ltable) .none kVL11 docL11 pmL11 anL11 cdL11 ctL11), slL11⟩) (cL11 : PySem.W.codeIn K cdL11 "_law_table" = true) (kL11 : PySem.W.keepIn K (.ref fL11) = true)
    (aL12 : PySem.W.nsIn K mainGlobals "_law_over" = some (some (.ref fL12))) (lL12 : K.lookup fL12 = some ⟨ocL12, odL12, .func (PySem.W.fnOf "_law_over" "_law_over" (defArgs s_lover) (defBody s_lover) (defScope s_lover) .none kVL12 docL12 pmL12 anL12 cdL12 ctL12), slL12⟩) (cL12 : PySem.W.codeIn K cdL12 "_law_over" = true) (kL12 : PySem.W.keepIn K (.ref fL12) = true)
    (aM1 : PySem.W.nsIn K mainGlobals "_law_table_right" = some (some (.ref fM1))) (lM1 : K.lookup fM1 = some ⟨ocM1, odM1, .func (PySem.W.fnOf "_law_table_right" "_law_table_right" (defArgs s_table_right) (defBody s_table_right) (defScope s_table_right) .none kVM1 docM1 pmM1 anM1 cdM1 ctM1), slM1⟩) (cM1 : PySem.W.codeIn K cdM1 "_law_table_right" = true) (kM1 : PySem.W.keepIn K (.ref fM1) = true)
    (aM2 : PySem.W.nsIn K mainGlobals "_law_pair_right" = some (some (.ref fM2))) (lM2 : K.lookup fM2 = some ⟨ocM2, odM2, .func (PySem.W.fnOf "_law_pair_right" "_law_pair_right" (defArgs s_pair_right) (defBody s_pair_right) (defScope s_pair_right) .none kVM2 docM2 pmM2 anM2 cdM2 ctM2), slM2⟩) (cM2 : PySem.W.codeIn K cdM2 "_law_pair_right" = true) (kM2 : PySem.W.keepIn K (.ref fM2) = true)
    (aM3 : PySem.W.nsIn K mainGlobals "_law_right" = some (some (.ref fM3))) (lM3 : K.lookup fM3 = some ⟨ocM3, odM3, .func (PySem.W.fnOf "_law_right" "_law_right" (defArgs s_right) (defBody s_right) (defScope s_right) .none kVM3 docM3 pmM3 anM3 cdM3 ctM3), slM3⟩) (cM3 : PySem.W.codeIn K cdM3 "_law_right" = true) (kM3 : PySem.W.keepIn K (.ref fM3) = true)
    (aM5 : PySem.W.nsIn K mainGlobals "law" = some (some (.ref fM5))) (lM5 : K.lookup fM5 = some ⟨ocM5, odM5, .func (PySem.W.fnOf "law" "law" (defArgs s_law) (defBody s_law) (defScope s_law) .none kVM5 docM5 pmM5 anM5 cdM5 ctM5), slM5⟩) (cM5 : PySem.W.codeIn K cdM5 "law" = true) (kM5 : PySem.W.keepIn K (.ref fM5) = true)
    (b_isinstance : PySem.W.nsIn K mainGlobals "isinstance" = some none)
    (b_int : PySem.W.nsIn K mainGlobals "int" = some none)
    (b_bool : PySem.W.nsIn K mainGlobals "bool" = some none)
    (b_list : PySem.W.nsIn K mainGlobals "list" = some none)
    (b_tuple : PySem.W.nsIn K mainGlobals "tuple" = some none)
    (b_len : PySem.W.nsIn K mainGlobals "len" = some none)
    (b_all : PySem.W.nsIn K mainGlobals "all" = some none)
    (b_sorted : PySem.W.nsIn K mainGlobals "sorted" = some none)
    (b_range : PySem.W.nsIn K mainGlobals "range" = some none)
    (b_abs : PySem.W.nsIn K mainGlobals "abs" = some none)
    (b_max : PySem.W.nsIn K mainGlobals "max" = some none)
    (b_min : PySem.W.nsIn K mainGlobals "min" = some none)
    (b_divmod : PySem.W.nsIn K mainGlobals "divmod" = some none)
    (b_enumerate : PySem.W.nsIn K mainGlobals "enumerate" = some none)
    (b_repr : PySem.W.nsIn K mainGlobals "repr" = some none)
    (b_sum : PySem.W.nsIn K mainGlobals "sum" = some none)
    (b_zip : PySem.W.nsIn K mainGlobals "zip" = some none)
    (aN : PySem.W.nsIn K mainGlobals "MOST_THINGS" = some (some (.int 9 tN)))
    (e1 : (recsOf q).find? (fun e => e.name == ("is_order" : Str)) = some dr1) (g1 : PySem.W.tabIn K "is_order" = some (c1, t1)) (n1 : K.lookup t1 = none)
    (e2 : (recsOf q).find? (fun e => e.name == ("are_within_bounds" : Str)) = some dr2) (g2 : PySem.W.tabIn K "are_within_bounds" = some (c2, t2)) (n2 : K.lookup t2 = none)
    : LawG l w K 9 63 "_law_script" mg fa h := by
  have DO := df_mk (x := "is_order") (st := s_is_order) (ps := ["value"]) X G (fun _ _ _ _ _ _ us hl => match us, hl with | [_], _ => rfl) aO lO cO kO
  have DI := df_mk (x := "is_integer") (st := s_is_integer) (ps := ["value"]) X G (fun _ _ _ _ _ _ us hl => match us, hl with | [_], _ => rfl) aI lI cI kI
  have DIL := df_mk (x := "is_list") (st := s_is_list) (ps := ["value"]) X G (fun _ _ _ _ _ _ us hl => match us, hl with | [_], _ => rfl) aIL lIL cIL kIL
  have DW := df_mk (x := "is_within_bounds") (st := s_is_within_bounds) (ps := ["value", "low", "high"]) X G (fun _ _ _ _ _ _ us hl => match us, hl with | [_, _, _], _ => rfl) aW lW cW kW
  have DAW := df_mk (x := "are_within_bounds") (st := s_awb) (ps := ["value", "low", "high"]) X G (fun _ _ _ _ _ _ us hl => match us, hl with | [_, _, _], _ => rfl) aAW lAW cAW kAW
  have DTO := df_mk (x := "is_tuple_of") (st := s_is_tuple_of) (ps := ["value", "size"]) X G (fun _ _ _ _ _ _ us hl => match us, hl with | [_, _], _ => rfl) aTO lTO cTO kTO
  have DIP := df_mk (x := "is_pair") (st := s_is_pair) (ps := ["value", "low", "high"]) X G (fun _ _ _ _ _ _ us hl => match us, hl with | [_, _, _], _ => rfl) aIP lIP cIP kIP
  have DC := df_mk (x := "check_order") (st := s_check_order) (ps := ["order"]) X G (fun _ _ _ _ _ _ us hl => match us, hl with | [_], _ => rfl) aC lC cC kC
  have DCH := df_mk (x := "check_orders") (st := s_check_orders) (ps := ["order", "other"]) X G (fun _ _ _ _ _ _ us hl => match us, hl with | [_, _], _ => rfl) aCH lCH cCH kCH
  have DCC := df_mk (x := "check_corner") (st := s_check_corner) (ps := ["size", "corner"]) X G (fun _ _ _ _ _ _ us hl => match us, hl with | [_, _], _ => rfl) aCC lCC cCC kCC
  have DCT := df_mk (x := "corner_table") (st := s_corner_table) (ps := ["order"]) X G (fun _ _ _ _ _ _ us hl => match us, hl with | [_], _ => rfl) aCT lCT cCT kCT
  have DCN := df_mk (x := "counted") (st := s_counted) (ps := ["order", "corner"]) X G (fun _ _ _ _ _ _ us hl => match us, hl with | [_, _], _ => rfl) aCN lCN cCN kCN
  have DAC := df_mk (x := "all_corners") (st := s_all_corners) (ps := ["size"]) X G (fun _ _ _ _ _ _ us hl => match us, hl with | [_], _ => rfl) aAC lAC cAC kAC
  have DOV := df_mk (x := "over") (st := s_over) (ps := ["order", "other"]) X G (fun _ _ _ _ _ _ us hl => match us, hl with | [_, _], _ => rfl) aOV lOV cOV kOV
  have DLB := df_mk (x := "lies_below") (st := s_lies_below) (ps := ["order", "other"]) X G (fun _ _ _ _ _ _ us hl => match us, hl with | [_, _], _ => rfl) aLB lLB cLB kLB
  have DBL := df_mk (x := "is_below") (st := s_is_below) (ps := ["order", "other"]) X G (fun _ _ _ _ _ _ us hl => match us, hl with | [_, _], _ => rfl) aBL lBL cBL kBL
  have DL1 := df_mk (x := "_law_pot") (st := s_pot) (ps := ["_law_script", "_law_k"]) X G (fun _ _ _ _ _ _ us hl => match us, hl with | [_, _], _ => rfl) aL1 lL1 cL1 kL1
  have DL2 := df_mk (x := "_law_draw") (st := s_draw) (ps := ["_law_pot_here", "_law_many"]) X G (fun _ _ _ _ _ _ us hl => match us, hl with | [_, _], _ => rfl) aL2 lL2 cL2 kL2
  have DL3 := df_mk (x := "_law_pick") (st := s_pick) (ps := ["_law_pot_here", "_law_some"]) X G (fun _ _ _ _ _ _ us hl => match us, hl with | [_, _], _ => rfl) aL3 lL3 cL3 kL3
  have DL4 := df_mk (x := "_law_mixed") (st := s_mixed) (ps := ["_law_pot_here", "_law_some"]) X G (fun _ _ _ _ _ _ us hl => match us, hl with | [_, _], _ => rfl) aL4 lL4 cL4 kL4
  have DL5 := df_mk (x := "_law_order") (st := s_order) (ps := ["_law_pot_here", "_law_size"]) X G (fun _ _ _ _ _ _ us hl => match us, hl with | [_, _], _ => rfl) aL5 lL5 cL5 kL5
  have DL6 := df_mk (x := "_law_as") (st := s_as) (ps := ["_law_pot_here", "_law_order_here"]) X G (fun _ _ _ _ _ _ us hl => match us, hl with | [_, _], _ => rfl) aL6 lL6 cL6 kL6
  have DL7 := df_mk (x := "_law_moved") (st := s_moved) (ps := ["_law_order_here", "_law_first", "_law_second"]) X G (fun _ _ _ _ _ _ us hl => match us, hl with | [_, _, _], _ => rfl) aL7 lL7 cL7 kL7
  have DL8 := df_mk (x := "_law_wrong") (st := s_lwrong) (ps := ["_law_order_here"]) X G (fun _ _ _ _ _ _ us hl => match us, hl with | [_], _ => rfl) aL8 lL8 cL8 kL8
  have DL9 := df_mk (x := "_law_count") (st := s_lcount) (ps := ["_law_order_here", "_law_corner"]) X G (fun _ _ _ _ _ _ us hl => match us, hl with | [_, _], _ => rfl) aL9 lL9 cL9 kL9
  have DL10 := df_mk (x := "_law_corners") (st := s_lcorners) (ps := ["_law_size"]) X G (fun _ _ _ _ _ _ us hl => match us, hl with | [_], _ => rfl) aL10 lL10 cL10 kL10
  have DL11 := df_mk (x := "_law_table") (st := s_ltable) (ps := ["_law_order_here"]) X G (fun _ _ _ _ _ _ us hl => match us, hl with | [_], _ => rfl) aL11 lL11 cL11 kL11
  have DL12 := df_mk (x := "_law_over") (st := s_lover) (ps := ["_law_one", "_law_two"]) X G (fun _ _ _ _ _ _ us hl => match us, hl with | [_, _], _ => rfl) aL12 lL12 cL12 kL12
  have DM1 := df_mk (x := "_law_table_right") (st := s_table_right) (ps := ["_law_pot_here", "_law_order_here"]) X G (fun _ _ _ _ _ _ us hl => match us, hl with | [_, _], _ => rfl) aM1 lM1 cM1 kM1
  have DM2 := df_mk (x := "_law_pair_right") (st := s_pair_right) (ps := ["_law_pot_here", "_law_one", "_law_two"]) X G (fun _ _ _ _ _ _ us hl => match us, hl with | [_, _, _], _ => rfl) aM2 lM2 cM2 kM2
  have DM3 := df_mk (x := "_law_right") (st := s_right) (ps := ["_law_pot_here"]) X G (fun _ _ _ _ _ _ us hl => match us, hl with | [_], _ => rfl) aM3 lM3 cM3 kM3
  have DM5 := df_mk (x := "law") (st := s_law) (ps := ["_law_script"]) X G (fun _ _ _ _ _ _ us hl => match us, hl with | [_], _ => rfl) aM5 lM5 cM5 kM5
  have e := hfa.symm.trans DM5.at_
  cases e
  have o1 := PySem.W.law_code X G g1 DO.at_ (X _ _ lO) rfl
  have o2 := PySem.W.law_code X G g2 DAW.at_ (X _ _ lAW) rfl
  have B : Bl2 mg := ⟨⟨PySem.W.mg_none_of X G b_isinstance, PySem.W.mg_none_of X G b_int, PySem.W.mg_none_of X G b_bool, PySem.W.mg_none_of X G b_list, PySem.W.mg_none_of X G b_tuple, PySem.W.mg_none_of X G b_len, PySem.W.mg_none_of X G b_all, PySem.W.mg_none_of X G b_sorted, PySem.W.mg_none_of X G b_range⟩, PySem.W.mg_none_of X G b_abs, PySem.W.mg_none_of X G b_max, PySem.W.mg_none_of X G b_min, PySem.W.mg_none_of X G b_divmod, PySem.W.mg_none_of X G b_enumerate, PySem.W.mg_none_of X G b_repr⟩
  obtain ⟨hd1, tb1⟩ := hT _ _ _ _ e1 g1
  obtain ⟨hd2, tb2⟩ := hT _ _ _ _ e2 g2
  have split : ∀ p ∈ [(c1, t1), (c2, t2)], p = (c1, t1) ∨ p = (c2, t2) := fun p hp => by
    simpa using hp
  refine ⟨PySem.W.fnOf "law" "law" (defArgs s_law) (defBody s_law) (defScope s_law) .none kVM5 docM5 pmM5 anM5 cdM5 ctM5, [(c1, t1), (c2, t2)], spLaw K (Ts t1 t2), ?_, ?_, ?_, ?_, ?_, fun base hK hB hC => ?_⟩
  · intro p hp
    rcases split p hp with rfl | rfl
    · exact tb1
    · exact tb2
  · intro p hp
    rcases split p hp with rfl | rfl
    · exact n1
    · exact n2
  · intro p hp
    rcases split p hp with rfl | rfl
    · exact hd1
    · exact hd2
  · exact fun s u => .of_eq rfl
  · refine fun H a ns hl _ hH hS => ⟨a, ns, rfl, hS, hl, fun t ht => ?_, fun _ => rfl⟩
    rcases ht with rfl | rfl
    · exact ⟨#[], hH (c1, t) (.head _), True.intro⟩
    · exact ⟨#[], hH (c2, t) (.tail _ (.head _)), True.intro⟩
  · exact law_fn o1 (hC (c1, t1) (.head _)) o2 (hC (c2, t2) (.tail _ (.head _))) ⟨_, PySem.W.mg_of X G aN⟩ B (PySem.W.mg_none_of X G b_sum) (PySem.W.mg_none_of X G b_zip) DO DI DIL DW DAW DTO DIP DC DCH DCC DCT DCN DAC DOV DLB DBL DL1 DL2 DL3 DL4 DL5 DL6 DL7 DL8 DL9 DL10 DL11 DL12 DM1 DM2 DM3 DM5 (kb_one DCT.fn fun _ _ _ _ _ _ _ => rfl) (kb_two DCN.fn fun _ _ _ _ _ _ _ _ => rfl) (kb_two DOV.fn fun _ _ _ _ _ _ _ _ => rfl)
end Lb

set_option maxRecDepth 100000 in
set_option maxHeartbeats 0 in
open PySem PySem.W PyProof.Rows in
theorem PySem.Challenge.cw_lowerboards_k25_whole_corners_counted_holds : PySem.Challenge.rw_lowerboards_k25_whole_corners_counted.Holds := by
  w_on; o_law; k_head; (case hw => w_witness2)
  k_fill
  refine Lb.walkG (k := 9) (n := 63) (x := "_law_script") rfl (by decide) rfl ⟨rfl, by decide, by decide⟩ (fun w h Y => PySem.W.kIn_of Y) ?F
  case F =>
    intro w mg fa h KX G hmg hT
    refine' Lb.all_mk KX G hmg hT ?aO ?lO ?cO ?kO ?aI ?lI ?cI ?kI ?aIL ?lIL ?cIL ?kIL ?aW ?lW ?cW ?kW ?aAW ?lAW ?cAW ?kAW ?aTO ?lTO ?cTO ?kTO ?aIP ?lIP ?cIP ?kIP ?aC ?lC ?cC ?kC ?aCH ?lCH ?cCH ?kCH ?aCC ?lCC ?cCC ?kCC ?aCT ?lCT ?cCT ?kCT ?aCN ?lCN ?cCN ?kCN ?aAC ?lAC ?cAC ?kAC ?aOV ?lOV ?cOV ?kOV ?aLB ?lLB ?cLB ?kLB ?aBL ?lBL ?cBL ?kBL ?aL1 ?lL1 ?cL1 ?kL1 ?aL2 ?lL2 ?cL2 ?kL2 ?aL3 ?lL3 ?cL3 ?kL3 ?aL4 ?lL4 ?cL4 ?kL4 ?aL5 ?lL5 ?cL5 ?kL5 ?aL6 ?lL6 ?cL6 ?kL6 ?aL7 ?lL7 ?cL7 ?kL7 ?aL8 ?lL8 ?cL8 ?kL8 ?aL9 ?lL9 ?cL9 ?kL9 ?aL10 ?lL10 ?cL10 ?kL10 ?aL11 ?lL11 ?cL11 ?kL11 ?aL12 ?lL12 ?cL12 ?kL12 ?aM1 ?lM1 ?cM1 ?kM1 ?aM2 ?lM2 ?cM2 ?kM2 ?aM3 ?lM3 ?cM3 ?kM3 ?aM5 ?lM5 ?cM5 ?kM5 ?b_isinstance ?b_int ?b_bool ?b_list ?b_tuple ?b_len ?b_all ?b_sorted ?b_range ?b_abs ?b_max ?b_min ?b_divmod ?b_enumerate ?b_repr ?b_sum ?b_zip ?aN ?e1 ?g1 ?n1 ?e2 ?g2 ?n2
    (case aO => k_is); (case lO => k_is); (case cO => k_is); (case kO => k_is)
    (case aI => k_is); (case lI => k_is); (case cI => k_is); (case kI => k_is)
    (case aIL => k_is); (case lIL => k_is); (case cIL => k_is); (case kIL => k_is)
    (case aW => k_is); (case lW => k_is); (case cW => k_is); (case kW => k_is)
    (case aAW => k_is); (case lAW => k_is); (case cAW => k_is); (case kAW => k_is)
    (case aTO => k_is); (case lTO => k_is); (case cTO => k_is); (case kTO => k_is)
    (case aIP => k_is); (case lIP => k_is); (case cIP => k_is); (case kIP => k_is)
    (case aC => k_is); (case lC => k_is); (case cC => k_is); (case kC => k_is)
    (case aCH => k_is); (case lCH => k_is); (case cCH => k_is); (case kCH => k_is)
    (case aCC => k_is); (case lCC => k_is); (case cCC => k_is); (case kCC => k_is)
    (case aCT => k_is); (case lCT => k_is); (case cCT => k_is); (case kCT => k_is)
    (case aCN => k_is); (case lCN => k_is); (case cCN => k_is); (case kCN => k_is)
    (case aAC => k_is); (case lAC => k_is); (case cAC => k_is); (case kAC => k_is)
    (case aOV => k_is); (case lOV => k_is); (case cOV => k_is); (case kOV => k_is)
    (case aLB => k_is); (case lLB => k_is); (case cLB => k_is); (case kLB => k_is)
    (case aBL => k_is); (case lBL => k_is); (case cBL => k_is); (case kBL => k_is)
    (case aL1 => k_is); (case lL1 => k_is); (case cL1 => k_is); (case kL1 => k_is)
    (case aL2 => k_is); (case lL2 => k_is); (case cL2 => k_is); (case kL2 => k_is)
    (case aL3 => k_is); (case lL3 => k_is); (case cL3 => k_is); (case kL3 => k_is)
    (case aL4 => k_is); (case lL4 => k_is); (case cL4 => k_is); (case kL4 => k_is)
    (case aL5 => k_is); (case lL5 => k_is); (case cL5 => k_is); (case kL5 => k_is)
    (case aL6 => k_is); (case lL6 => k_is); (case cL6 => k_is); (case kL6 => k_is)
    (case aL7 => k_is); (case lL7 => k_is); (case cL7 => k_is); (case kL7 => k_is)
    (case aL8 => k_is); (case lL8 => k_is); (case cL8 => k_is); (case kL8 => k_is)
    (case aL9 => k_is); (case lL9 => k_is); (case cL9 => k_is); (case kL9 => k_is)
    (case aL10 => k_is); (case lL10 => k_is); (case cL10 => k_is); (case kL10 => k_is)
    (case aL11 => k_is); (case lL11 => k_is); (case cL11 => k_is); (case kL11 => k_is)
    (case aL12 => k_is); (case lL12 => k_is); (case cL12 => k_is); (case kL12 => k_is)
    (case aM1 => k_is); (case lM1 => k_is); (case cM1 => k_is); (case kM1 => k_is)
    (case aM2 => k_is); (case lM2 => k_is); (case cM2 => k_is); (case kM2 => k_is)
    (case aM3 => k_is); (case lM3 => k_is); (case cM3 => k_is); (case kM3 => k_is)
    (case aM5 => k_is); (case lM5 => k_is); (case cM5 => k_is); (case kM5 => k_is)
    (case b_isinstance => k_is); (case b_int => k_is); (case b_bool => k_is); (case b_list => k_is)
    (case b_tuple => k_is); (case b_len => k_is); (case b_all => k_is); (case b_sorted => k_is)
    (case b_range => k_is); (case b_abs => k_is); (case b_max => k_is); (case b_min => k_is)
    (case b_divmod => k_is); (case b_enumerate => k_is); (case b_repr => k_is); (case b_sum => k_is)
    (case b_zip => k_is); (case aN => k_is); (case e1 => first | rfl | k_is); (case g1 => first | rfl | k_is)
    (case n1 => first | rfl | k_is); (case e2 => first | rfl | k_is); (case g2 => first | rfl | k_is); (case n2 => first | rfl | k_is)
