import PyProof.Rows.All
import Wide.All
import OpenK.AllK
import Wide.FinOn
import HandS.ForMost
import HandS.Walk
import HandS.Strs
import HandS.SetFor
import HandS.Conv
import HandS.DictComp
import HandS.Defaults
import KE.KIndexOf
import KE.GoesEnum
import KE.GoesMore
import HandS.SortInts
import HandS.IsInst
import HandS.StrMore
import HandS.Deep
import HandS.Codes
import HandS.Wide
import HandS.WideMore
import HandS.TryElse
import HandS.Style
import HandS.Flow
import HandS.More
import HandS.ExcOwn
import HandS.TryOnly
import HandS.WordsExc
import PySem.Challenge.RW_patternways_k03_whole_words
set_option Elab.async false
set_option linter.all false
set_option maxRecDepth 100000
/-! Rules of our own: enumerate over a tuple, set of a list of ints, tuple of a dict, index in such a tuple. -/
namespace Own
open PySem PySem.Spec PyProof.Rows L2
/-- the tuple at a as it stands, each item in a new pair with its place -/
def ItE (K : PySem.W.Frag) (a : Addr) : It where
  go := fun i H => ∃ (xs : List V) (x : V), SqT K H a xs ∧ xs[i]? = some x
  yld := fun i H v H' => ∃ T x, v = .ref T ∧ H T = none ∧ H' = upd H T (.tup [.int (i : Nat), x]) ∧ ∀ xs, SqT K H a xs → xs[i]? = some x
  stop := fun i H => ∃ xs : List V, SqT K H a xs ∧ xs.length = i
theorem turnE {P : Program} {w : World} {K : PySem.W.Frag} {elts : List Expr} {kk : Nat} {tpos : Pos} (a e it : Addr) (hai : a ≠ it) (hae : a ≠ e) :
    Turn P w K (.Tuple elts kk tpos) (ItE K a) [e, it] e (fun i h => (∃ old, IsEnum h e it ((i : Nat) : Int) old) ∧ h.IsTupleIter it a i ∧ e ≠ it) where
  mem := List.mem_cons_self
  obj := by
    intro i h st b hb
    obtain ⟨⟨old, he⟩, ⟨o, ho, hc, hd⟩, _⟩ := st
    rcases List.mem_cons.mp hb with z | z
    · subst z
      exact ⟨_, he, fun v q => nomatch q⟩
    · rw [List.mem_singleton.mp z]
      refine ⟨o, ho, fun v q => ?_⟩
      rw [hd] at q
      cases q
  keep := by
    intro i h h' st k
    obtain ⟨⟨old, he⟩, hi, hne⟩ := st
    exact ⟨⟨old, k e (by simp) _ he⟩, hi.at fun o q => k it (by simp) o q, hne⟩
  item := by
    intro X hP hw hK hc i pins s σ H E I hf st hg
    subst hP hw hK
    obtain ⟨⟨old, he⟩, hit, hne⟩ := st
    obtain ⟨xs, x, hq, hx⟩ := hg
    obtain ⟨its, rv, p, hz⟩ := I.tuple hq
    obtain ⟨u, hu, ru⟩ := rv.get hx
    have hel : e < s.heap.objs.size := Heap.lt_size he
    have hil : it < s.heap.objs.size := by
      obtain ⟨_, q, _⟩ := hit
      exact Heap.lt_size q
    have hlt : i < its.toArray.size := by
      rw [List.size_toArray]
      exact (List.getElem?_eq_some_iff.mp hu).1
    have hh : X.A.in1.handled = none := I.ok.hd hc
    refine wpAny_pyNext_enum_itemC (Draws.tuple hh it a hai its.toArray) he ⟨hit, p⟩ hlt hne (by simp [hne, hae.symm]) fun y h' tk hy ho hst hT hsz hk => ?_
    have ey : y = u := by
      have hy' : its.toArray[i]? = some y := hy
      rw [List.getElem?_toArray, hu] at hy'
      exact (Option.some.inj hy').symm
    subst ey
    refine ⟨_, rfl, wpAny_letOwnedTupleGo_enum (s := { s with heap := h', toks := tk + 1 }) ho fun h'' he' sb => ?_⟩
    have hT2 : h''.get? s.heap.objs.size = some { cls := .type "tuple", data := .seq #[.int i tk, y] } := (sb.2 _ (Nat.ne_of_gt hel)).trans hT
    have new : ObjOk X.prog X.w (upd H s.heap.objs.size (.tup [.int (i : Nat), x])) h'' s.heap.objs.size (.tup [.int (i : Nat), x]) := by
      refine ⟨?_, [.int i tk, y], .cons ⟨_, rfl⟩ (.cons ru .nil), ⟨_, hT2, rfl, _, rfl⟩⟩
      show 2 ≤ sizeLine
      decide
    have I1 : Inv X pins σ (upd H s.heap.objs.size (.tup [.int (i : Nat), x])) { s with heap := h'', toks := tk + 1 } := by
      refine I.turnedNew (ch := [e, it]) (fun b ob hb q => ?_) hf (Nat.le_refl _) new
      exact (sb.2 b (fun z => hb (by simp [z]))).trans (hk b ob (fun z => hb (by simp [z])) (fun z => hb (by simp [z])) q)
    refine ⟨.ref s.heap.objs.size, _, I1, rfl, ⟨_, x, rfl, I.hok.fresh (Nat.le_refl _), rfl, fun ys hy => ?_⟩, ⟨⟨y, ?_⟩, ?_, hne⟩, fun b hb => ?_⟩
    · rw [I.tuple_inj hy hq]
      exact hx
    · have e1 : ((i + 1 : Nat) : Int) = (i : Int) + 1 := by omega
      rw [e1]
      exact he'
    · exact hst.1.at fun o q => (sb.2 it (Ne.symm hne)).trans q
    · have hb' : b < s.heap.objs.size := by
        rcases List.mem_cons.mp hb with z | z
        · rw [z]
          exact hel
        · rw [List.mem_singleton.mp z]
          exact hil
      rw [upd_ne (Nat.ne_of_lt hb')]
      exact (hf b hb).1
  done := by
    intro X hP hw hK hc i pins s σ H E I hf st hg
    subst hP hw hK
    obtain ⟨⟨old, he⟩, hit, hne⟩ := st
    obtain ⟨xs, hq, hx⟩ := hg
    obtain ⟨its, rv, p, hz⟩ := I.tuple hq
    obtain ⟨f0, f1, f2, f3, f4, f5⟩ := hf it (by simp)
    have hl := rv.length
    have hh : X.A.in1.handled = none := I.ok.hd hc
    have hi : i = its.toArray.size := by
      rw [List.size_toArray]
      omega
    subst hi
    exact wpAny_pyNext_enum_endD (Draws.tuple hh it a hai its.toArray) he ⟨hit, p⟩ fun h' eb => ⟨rfl, I.turned (t' := s.toks) (fun b o hb q => eb b o hb q) f0 f1 f3 f4 f5⟩
  self := by
    intro A i s Q E st h
    obtain ⟨⟨_, he⟩, _⟩ := st
    exact wpAny_pyIter_enum he h
/-- the two cells of enumerate(v) -/
abbrev enumCell (N : Addr) : Obj := { cls := .type "enumerate", data := .fields #[.none, .bool false, .ref N, rawInt 0, .none, .none] }
set_option maxHeartbeats 1000000 in
theorem newB1 {v : Value} {o : Obj} {H : Heap → Prop} (B : Begins v o H) :
    Meets (Builtin.«enumerate.__new__» ⟨[.type "enumerate", v], []⟩) (fun _ R s => H s.heap ∧
      R (.ok (.ret (.ref (s.heap.push o).objs.size))) { s with heap := (s.heap.push o).push (enumCell s.heap.objs.size) }) := by
  refine .of_wp fun prog w A R s h => ?_
  obtain ⟨hp, g, d, tk, os⟩ := s
  obtain ⟨h1, h⟩ := h
  have hsub := sub_enumerate
  have q1 : ∀ {A' : Around} {E : Value → Shared → Prop} {Q : Value → Shared → Prop}, Q (.ref hp.objs.size) ⟨hp.push o, g, d, tk, os⟩ → wpAny (model prog w) A' (pyIter v) Q E ⟨hp, g, d, tk, os⟩ := by
    intro A' E Q q
    exact B.iter prog w _ _ _ _ h1 q
  wp_walk using q1
  refine wpAny_stack_any fun st => wpAny_pure ?_
  split
  · rename_i c _ _ _ _ _
    cases (c == Value.type "enumerate") <;> (wp_walk using q1; exact ⟨_, rfl, h⟩)
  · wp_walk using q1
    exact ⟨_, rfl, h⟩
theorem enumT1 {prog : Program} {w : World} {A : Around} {E : Value → Shared → Prop} {s : Shared} {v : Value} {o : Obj} {H : Heap → Prop} {Q : Value → Shared → Prop} (B : Begins v o H) (h1 : H s.heap)
    (h : ∀ h', IsEnum h' (s.heap.objs.size + 1) s.heap.objs.size 0 .none → h'.get? s.heap.objs.size = some o → (∀ b o, s.heap.get? b = some o → h'.get? b = some o) → Q (.ref (s.heap.objs.size + 1)) { s with heap := h' }) :
    wpAny (model prog w) A (call (.type "enumerate") [v]) Q E s := by
  refine callType_new F.called_enumerate (by decide) (F.typeCall_enumerate_1 _) (F.newCall_enumerate_1 _) (fun obj => F.args_object_init_2 obj _) F.entry_enumerate_new (newB1 B) ⟨h1, ?_⟩
  have hz : (s.heap.push o).objs.size = s.heap.objs.size + 1 := Heap.size_push ..
  show _ ∧ _
  rw [hz]
  have he : IsEnum ((s.heap.push o).push (enumCell s.heap.objs.size)) (s.heap.objs.size + 1) s.heap.objs.size 0 .none := by
    have q := Heap.get?_push_size (s.heap.push o) (o := enumCell s.heap.objs.size) rfl
    rw [hz] at q
    exact q
  exact ⟨⟨_, he, rfl⟩, h _ he (Heap.get?_push_of_some _ (Heap.get?_push_size _ B.free)) fun b o x => Heap.get?_push_of_some _ (Heap.get?_push_of_some _ x)⟩
def iE (K : PySem.W.Frag) (ta : TA) : TI := fun σ H R => ta σ H fun vs H1 => ∃ a xs, vs = [.ref a] ∧ SqT K H1 a xs ∧ R (ItE K a) H1
/-- for i, x in enumerate(t), t a tuple -/
theorem pi_enumT {X : Cx} {e : Expr} {ta : TA} {p pos tpos : Pos} {elts : List Expr} {kk : Nat} (hg : Gl X "enumerate") (hm : X.mg "enumerate" = none) (ha : PA X [e] ta)
    (hs : starEach [e] X.env = [(false, eval e X.env)] := by rfl) : PI X (.Tuple elts kk tpos) (.Call (.Name "enumerate" p) [e] [] pos) (iE X.K ta) := by
  constructor
  intro pins s σ H R I h
  refine Call_ (ld_blt I hg hm boot_enumerate (PyProof.Rows.callWith_type1 (thn (ha.run pos pins s σ H _ I h) fun us s1 w1 => ?_) hs rfl))
  obtain ⟨vs, H1, I1, r1, a, xs, rfl, hq, q⟩ := w1
  cases r1 with
  | cons r rr =>
    cases rr
    cases r
    obtain ⟨its, rv, pt, hz⟩ := I1.tuple hq
    have hal : a < s1.heap.objs.size := by
      obtain ⟨o, ho, _⟩ := pt
      exact Heap.lt_size ho
    refine enumT1 (begins_tuple a its.toArray) pt fun h' he hit hk => wpAny_pyIter_enum he ?_
    have I2 : Inv X pins σ H1 { s1 with heap := h' } := I1.kept (t' := s1.toks) hk
    refine ⟨s1.heap.objs.size + 1, [s1.heap.objs.size + 1, s1.heap.objs.size], _, _, H1, rfl, I2,
      turnE a (s1.heap.objs.size + 1) s1.heap.objs.size (Nat.ne_of_lt hal) (Nat.ne_of_lt (Nat.lt_succ_of_lt hal)), ⟨⟨.none, he⟩, ⟨_, hit, rfl, rfl⟩, Nat.succ_ne_self _⟩, fun b hb => ?_, q⟩
    have hle : s1.heap.objs.size ≤ b := by
      rcases List.mem_cons.mp hb with z | z
      · rw [z]
        exact Nat.le_add_right _ _
      · rw [List.mem_singleton.mp z]
        exact Nat.le_refl _
    exact I1.fpOk hle (I1.hok.fresh hle)
theorem walk_enumT {K : PySem.W.Frag} {a : Addr} {xs : List V} : Walk (ItE K a) xs.length (fun H => SqT K H a xs) (YPair (fun i => some (.int (i : Nat))) (fun i => xs[i]?)) := by
  refine ⟨fun i H hi q => ⟨xs, xs[i], q, by simp [hi]⟩, fun H q => ⟨xs, q, rfl⟩, fun i H v H' _ q y => ?_⟩
  obtain ⟨T, x, h1, h2, h3, h4⟩ := y
  exact ⟨T, .int (i : Nat), x, h1, h2, h3, rfl, h4 xs q⟩
end Own
namespace Own
open PySem PySem.Spec PyProof.Rows L2
section
variable {prog : Program} {w : World} {A : Around} {E : Value → Shared → Prop} {s : Shared} {T : String} {r d : Addr} {n : Nat} {P : Nat → Value → Prop} {OK : Heap → Prop}
/-- what a source gives, one by one -/
theorem collect_src {Q : List Value → Shared → Prop} (K : PySem.W.KdlSrc prog w T r d n P OK) (hh : A.handled = none) (hok : OK s.heap) (hn : n ≤ sizeLine)
    (hQ : ∀ (h' : Heap) (tk : Nat) (acc : Array Value), (∀ b o, s.heap.get? b = some o → h'.get? b = some o) → ItemsOf P acc n → Q acc.toList { s with heap := h', toks := tk }) :
    wpAny (model prog w) A (collect (.ref r)) Q E s := by
  have hlt := K.there _ hok
  unfold collect
  refine wpAny_bind (wpAny_runValue (codeAny_builtin F.entry_proto_collect ?_))
  rw [Around.under_plainId F.plain_proto_collect _]
  show wpAny _ A.in1 (newList [] >>= fun l => again (.builtin "list.__iadd__" ⟨[l, .ref r], []⟩)) _ _ s
  refine wpAny_bind (wpAny_newObj_type (wpAny_pure ⟨plainId_quiet F.plain_list_iadd _, codeAny_builtin F.entry_list_iadd ?_⟩))
  rw [Around.under_plainId F.plain_list_iadd _]
  show wpAny _ A.in1 (Builtin.List.listExtendWith (.ref s.heap.objs.size) (.ref r) (.ref s.heap.objs.size)) _ _ _
  have hS : (s.heap.push { cls := .type "list", data := .seq ([] : List Value).toArray }).get? s.heap.objs.size = some { cls := .type "list", data := .seq #[] 0 } := Heap.get?_push_size _ rfl
  have hok' : OK (s.heap.push { cls := .type "list", data := .seq ([] : List Value).toArray }) := K.keep _ _ hok fun b _ o e => Heap.get?_push_of_some _ e
  refine wpAny_mono (PySem.W.kdl_extend (A := A) (R := fun rr s' => rr = .ok (.ret (.ref s.heap.objs.size)) ∧ ∃ (h' : Heap) (tk : Nat) (acc : Array Value) (c' : Nat), s' = { s with heap := h', toks := tk } ∧
      (∀ b o, s.heap.get? b = some o → h'.get? b = some o) ∧ h'.get? s.heap.objs.size = some { cls := .type "list", dict := none, data := .seq acc c', slots := #[] } ∧ ItemsOf P acc n)
    (s := { s with heap := s.heap.push { cls := .type "list", data := .seq ([] : List Value).toArray } }) K hh hok' s.heap.objs.size (Nat.ne_of_gt hlt.1) (Nat.ne_of_gt hlt.2) _ 0 hS
    (fun h' tk acc c' hk e hi => ⟨rfl, h', tk, acc, c', rfl, fun b o q => hk b o (Nat.ne_of_lt (Heap.lt_size q)) (Heap.get?_push_of_some _ q), e, hi⟩) hn) (fun fin s' h => ?_) (fun e s' h => ?_)
  · cases fin with
    | done f =>
      obtain ⟨e, h', tk, acc, c', rfl, hk, hS', hi⟩ := h
      cases e
      exact wpAny_bind (wpAny_load hS' (wpAny_pure (hQ h' tk acc hk hi)))
    | again c' =>
      refine ⟨h.1, codeAny_mono h.2 fun rr s'' hr' => ?_⟩
      obtain ⟨rfl, h', tk, acc, c', rfl, hk, hS', hi⟩ := hr'
      exact wpAny_bind (wpAny_load hS' (wpAny_pure (hQ h' tk acc hk hi)))
  · exact absurd h.1 (by simp)
/-- tuple(v) of such a source -/
theorem tuple_src {Q : Value → Shared → Prop} (K : PySem.W.KdlSrc prog w T r d n P OK) (hh : A.handled = none) (hok : OK s.heap) (hn : n ≤ sizeLine)
    (hQ : ∀ (h' : Heap) (tk : Nat) (acc : Array Value), (∀ b o, s.heap.get? b = some o → h'.get? b = some o) → ItemsOf P acc n →
      Q (.ref h'.objs.size) { s with heap := h'.push { cls := .type "tuple", data := .seq acc }, toks := tk }) :
    wpAny (model prog w) A (call (.type "tuple") [.ref r]) Q E s := by
  refine callType_codes (Q₁ := fun obj s₁ => s₁.TypeIs obj "tuple" ∧ Q obj s₁) F.called_tuple (F.typeCall_tuple_1 _) F.entry_object_init ?_ fun obj s₁ h₁ => ?_
  · refine codeAny_of_tree ?_
    show wpAny _ A.in1.in1 (do checkBuiltinCall "tuple.__new__" ⟨[.type "tuple", .ref r], []⟩; again (.builtin "tuple.__new__" ⟨[.type "tuple", .ref r], []⟩)) _ _ s
    refine wpAny_bind (wpAny_of_eq (F.newCall_tuple_1 _) (wpAny_pure ⟨plainId_quiet F.plain_tuple_new _, codeAny_builtin F.entry_tuple_new ?_⟩))
    rw [Around.under_plainId F.plain_tuple_new _]
    have hsub := sub_tuple_self
    have hinit := init_tuple_lookup
    have hmh := madeHere_tuple
    have hTI : s.TypeIs (.ref r) T := K.type s hok
    have n1 := K.notList
    have n2 := K.notTuple
    have hh1 : A.in1.in1.handled = none := hh
    wp_walk using wpAny_typeOf hTI, collect_src (A := A.in1.in1) K hh1 hok hn
    intro h' tk acc hk hacc
    show wpAny _ _ (Builtin.Tuple.tupleExact acc.toList.toArray >>= fun v => ret v) _ _ _
    unfold Builtin.Tuple.tupleExact
    refine wpAny_bind (wpAny_newObj_type ?_ ?_)
    · refine wpAny_pure ?_
      have e : acc.toList.toArray = acc := by simp
      rw [e]
      exact ⟨⟨_, Heap.get?_push_size _ rfl, rfl⟩, hQ h' tk acc hk hacc⟩
    · show acc.toList.toArray.size ≤ sizeLine
      simp only [Array.toArray_toList]
      rw [hacc.1]
      exact hn
  · exact ⟨h₁.1, F.args_object_init_2 obj _, object_init_meets F.called_tuple.init.lookup F.called_tuple.made (by decide) prog w A.in1 _ s₁ ⟨h₁.1, rfl, h₁.2⟩⟩
end
/-- tuple(d), d a dict of int and text keys: a new tuple of its keys, known to its object -/
def PlainT (o : Obj) : Prop := o.cls = .type "tuple" ∧ o.dict = none
def rTupD : List V → Hp → VK → Prop := fun xs H Q => ∃ p kvs, xs = [.ref p] ∧ H p = some (.dK kvs) ∧ ∀ q o, H q = none → PlainT o → Q (.ref q) (upd H q (.frz o (.tup (kvs.map fun kv => kV kv.1))))
theorem call_tupD {X : Cx} (hc : X.calm = true) : CallR X (.type "tuple") rTupD := by
  intro pins s σ H xs us Q I r h
  obtain ⟨p, kvs, e, hk, q⟩ := h
  subst e
  obtain ⟨u, eu, rx⟩ := vals1 r
  subst eu
  obtain rfl : u = Value.ref p := rx
  obtain ⟨z, lo, vs, rk, hd⟩ := (show ObjOk X.prog X.w H s.heap p (.dK kvs) from I.hok p _ hk)
  obtain ⟨ep, hat⟩ := hd.dictAt
  have hl : kvs.length = vs.length := Paired.length rk
  refine tuple_src (PySem.W.kdl_dict (knd := mixKind X.prog X.w) (kvs := vs) (ep := ep) lo) (I.ok.hd hc) hat (by rw [← hl]; exact z) fun h' tk acc hkeep hacc => ?_
  have I1 : Inv X pins σ H { s with heap := h', toks := tk } := I.kept hkeep
  have rel : Vals (kvs.map fun kv => kV kv.1) acc.toList := by
    have el : acc.toList.length = acc.size := by simp
    refine vals_of_at (by rw [List.length_map, el, hacc.1, hl]) fun j x w h1 h2 => ?_
    obtain ⟨k, y, hky, hi⟩ := hacc.2 j w (by rw [← Array.getElem?_toList]; exact h2)
    have e1 : (kvs.map (·.1))[j]? = some k := by
      rw [KV.keys rk, List.getElem?_map, hky]
      rfl
    have e2 : (kvs.map fun kv => kV kv.1) = (kvs.map (·.1)).map kV := by
      rw [List.map_map]
      rfl
    rw [e2, List.getElem?_map, e1] at h1
    cases h1
    exact keyIs_rel hi
  have hz : (kvs.map fun kv => kV kv.1).length ≤ sizeLine := by
    rw [List.length_map]
    exact z
  have ok : ObjOk X.prog X.w (upd H h'.objs.size (.frz { cls := .type "tuple", data := .seq acc } (.tup (kvs.map fun kv => kV kv.1)))) (h'.push { cls := .type "tuple", data := .seq acc }) h'.objs.size
      (.frz { cls := .type "tuple", data := .seq acc } (.tup (kvs.map fun kv => kV kv.1))) := by
    refine ⟨Heap.get?_push_size _ rfl, hz, acc.toList, rel, ?_⟩
    rw [Array.toArray_toList]
    exact IsTup.new _ _
  exact ⟨.ref h'.objs.size, _, I1.laid (fun b o e => Heap.get?_push_of_some _ e) (Nat.le_refl _) ok, rfl, q _ _ (I1.hok.fresh (Nat.le_refl _)) ⟨rfl, rfl⟩⟩
end Own
namespace Own
open PySem PySem.Spec PyProof.Rows L2
/-- t.index(k), t a tuple of ints that is known to its object -/
def tTix (to : TE) (t : TA) : TE := fun σ H Q => to σ H fun x H1 => ∃ (p : Addr) (o : Obj) (ns : List Int), x = .ref p ∧ H1 p = some (.frz o (.tup (ns.map V.int))) ∧ PlainT o ∧
  t σ H1 fun vs H2 => ∃ k : Int, vs = [.int k] ∧ H2 p = some (.frz o (.tup (ns.map V.int))) ∧ k ∈ ns ∧ Q (.int (ns.idxOf k : Nat)) H2
theorem pe_tix {X : Cx} {o e : Expr} {to : TE} {t : TA} {apos cpos : Pos} (ho : PE X o to) (ha : PA X [e] t) (hbase : attributeBase o "index" X.env (eval o X.env) = eval o X.env := by rfl)
    (hfew : ((backTo cpos (starEach [e] X.env)).all (fun x => !x.1) && (backToKw cpos (keywordEach [] X.env)).all (fun x => x.1.isSome) && decide (([e] : List Expr).length + ([] : List Keyword).length + (if ([] : List Keyword).isEmpty then 0 else 1) < 30)) = true := by rfl)
    (hline : (apos.endLine == cpos.line) = true := by rfl) (hs : starEach [e] X.env = (false, eval e X.env) :: starEach [] X.env := by rfl) (hplain : (backTo cpos (starEach [] X.env)).any (·.1) = false := by rfl) :
    PE X (.Call (.Attribute o "index" apos) [e] [] cpos) (tTix to t) := by
  constructor
  intro pins s σ H Q I h
  refine wpAny_Call_method_late hbase hfew hline rfl (thn (ho.run pins s σ H _ I h) fun v s1 w1 => ?_)
  obtain ⟨x, H1, I1, r1, p, ob, ns, rfl, hp, po, q1⟩ := w1
  cases r1
  have okp := I1.hok p _ hp
  obtain ⟨hob, _⟩ := okp
  refine ⟨"tuple", "tuple.index", PySem.F.plainAttrs_tuple, PySem.F.slot_tuple_index, PySem.F.type_tuple_index, ⟨ob, hob, po.1⟩, ?_, ?_⟩
  · intro a ea
    cases ea
    exact ⟨ob, hob, po.2⟩
  have hA := ha.run cpos pins s1 σ H1 _ I1 q1
  rw [hs] at hA ⊢
  refine Calls.callWith_builtin ?_ (Calls.evalArgs_plain (thn hA fun us s2 w2 => ?_))
  · show (false || (backTo cpos (starEach [] X.env)).any (·.1)) = false
    rw [hplain]
    rfl
  obtain ⟨vs, H2, I2, r2, k, rfl, hp2, hk, q2⟩ := w2
  obtain ⟨u, rfl, t0, rfl⟩ := vals1 r2
  obtain ⟨hob2, hlen, its, rv, pt⟩ := I2.hok p _ hp2
  exact PySem.SeqAt.tuple_index_ints (l := p) (vs := its) pt (Vals.ints rv) hk ⟨.int (ns.idxOf k : Nat), H2, I2.tok _, ⟨_, rfl⟩, q2⟩
/-! set(l), l a list of ints -/
section
variable {P : Program} {w : World} {A : Around} {E : Value → Shared → Prop} {s : Shared}
abbrev emptySet (w : World) : Obj := { cls := .type "set", dict := none, data := .set #[] 0 (.fresh 0 0 (!w.params.followText "set-order")) }
set_option maxHeartbeats 3200000 in
theorem set_of_list {l : Addr} {items : Array Value} (ns : List Int) {Q : Value → Shared → Prop} (hh : A.handled = none) (hl : s.heap.IsList l items) (hit : IntsAre items.toList ns) (hb : ns.length + 1 < scanBound)
    (h : ∀ (h' : Heap) (tk c : Nat), SetR w h' s.heap.objs.size (fun j => decide (j ∈ ns)) c → c ≤ ns.length → (∀ b o, s.heap.get? b = some o → h'.get? b = some o) → Q (.ref s.heap.objs.size) { s with heap := h', toks := tk }) :
    wpAny (model P w) A (call (.type "set") [.ref l]) Q E s := by
  have hisz : items.size = ns.length := by
    have q := IntsAre.length hit
    rw [Array.length_toList] at q
    exact q
  obtain ⟨c, tl, hmro⟩ := F.called_set.mro
  have hmade := F.called_set.made
  have hsub := F.called_set.sub
  refine wpAny_call (codeAny_of_tree ?_)
  show wpAny _ _ (callAny (.type "set") _) _ _ _
  refine wpAny_pure ⟨Code.quiet_builtin _ (by decide +kernel), codeAny_builtin F.entry_type_call ?_⟩
  rw [Around.under_plain (weight_type_call_type "set" [.ref l] []) rfl]
  have h1 := F.called_set.notType
  have h2 := F.called_set.canCreate
  have hct := F.typeCall_set_1 (.ref l)
  repeat (any_goals (first | assumption | wp_step))
  refine codeAny_mono (code_set_led1 (.ref l) (E := E) (Q₁ := fun obj s₁ => obj = .ref s.heap.objs.size ∧ s₁ = { s with heap := s.heap.push (emptySet w) }) ⟨rfl, rfl⟩) fun r s₁ hr => ?_
  cases r with
  | error e => exact hr
  | ok fl =>
    cases fl with
    | ret obj =>
      obtain ⟨rfl, rfl⟩ := hr
      have hS : (s.heap.push (emptySet w)).get? s.heap.objs.size = some (emptySet w) := Heap.get?_push_size _ rfl
      have hT : Shared.TypeIs { s with heap := s.heap.push (emptySet w) } (.ref s.heap.objs.size) "set" := ⟨_, hS, rfl⟩
      have hli := F.called_set.init.lookup
      have hbi := F.called_set.init.bind (.ref s.heap.objs.size)
      repeat (any_goals (first | assumption | wp_step))
      refine codeAny_mono (codeAny_call_builtin (R := wants (fun r s₂ => r = .none ∧ ∃ h' tk c, s₂ = { s with heap := h', toks := tk } ∧ SetR w h' s.heap.objs.size (fun j => decide (j ∈ ns)) c ∧ c ≤ ns.length ∧
          (∀ b o, s.heap.get? b = some o → h'.get? b = some o)) E) F.called_set.init.plain F.entry_set_init (check_set_init_1 hT ?_)) fun r₂ s₂ hr₂ => ?_
      · obtain ⟨ol, hol, hcl, nl, hdl⟩ := hl
        obtain ⟨ocls, odict, odata, oslots⟩ := ol
        simp only at hcl hdl
        subst hcl; subst hdl
        have hol' : (s.heap.push (emptySet w)).get? l = some { cls := .type "list", dict := odict, data := .seq items nl, slots := oslots } := Heap.get?_push_of_some _ hol
        have hsls := F.sub_list_set
        have hslf := F.sub_list_frozenset
        have hne : (Value.type "list" == Value.type "dict") = false := by decide
        have hl1 : (s.heap.push (emptySet w)).IsList l items := ⟨_, hol', rfl, nl, rfl⟩
        unfold Builtin.«set.__init__» noKeywords Builtin.Frozenset.updateFrom
        generalize hPI : pyIter = PI
        wp_walk
        subst hPI
        refine wpAny_pyIter_list hl1 (wpAny_bind (wpAny_runValue ?_))
        have hlS : l < s.heap.objs.size := Heap.lt_size hol
        have hh3 : A.in1.in1.in1.handled = none := by simp [hh]
        have hz1 : (s.heap.push (emptySet w)).objs.size = s.heap.objs.size + 1 := Heap.size_push ..
        have hneI : l ≠ (s.heap.push (emptySet w)).objs.size := by
          rw [hz1]
          exact Nat.ne_of_lt (Nat.lt_succ_of_lt hlS)
        have hSf : s.heap.objs.size ∉ [(s.heap.push (emptySet w)).objs.size, l] := by
          rw [hz1]
          intro m
          rcases List.mem_cons.mp m with z | z
          · exact absurd z (Nat.ne_of_lt (Nat.lt_succ_self _))
          · exact absurd (List.mem_singleton.mp z) (Nat.ne_of_gt hlS)
        have hval : ∀ (i : Nat) (v : Value), items[i]? = some v → ∃ k t, ns[i]? = some k ∧ v = .int k t := by
          intro i v hv
          have hi : i < ns.length := by
            rw [← hisz]
            exact (Array.getElem?_eq_some_iff.mp hv).1
          obtain ⟨t, e⟩ := PyProof.Rows.IntsAre.int_at hit i v (by rw [Array.getElem?_toList]; exact hv)
          refine ⟨ns[i], t, List.getElem?_eq_getElem hi, ?_⟩
          rw [e, List.getD_eq_getElem?_getD, List.getElem?_eq_getElem hi]
          rfl
        refine set_update_ints ((Walks.list hh3 _ l hneI items).toS) s.heap.objs.size hSf ns hisz hb hval (items.size - 0) 0 _ (by omega) (Nat.zero_le _) ⟨⟨_, Heap.get?_push_size _ rfl, rfl, rfl⟩, (hl1.push _)⟩ ⟨0, Nat.le_refl 0, setR_new_at (Heap.get?_push_of_some _ hS)⟩ ?hR
        intro s' c' hm hc' hS'
        obtain ⟨h', g2, d', tk', os'⟩ := s'
        have eg : g2 = s.gens := hm.gens
        have ed : d' = s.drawn := hm.drawn
        have eo : os' = s.os := hm.os
        subst eg; subst ed; subst eo
        show wpAny _ _ _ _ _ _
        refine wpAny_pure ?_
        show wpAny _ _ (ret Value.none) _ _ _
        rw [hisz] at hc'
        refine wpAny_pure ⟨rfl, h', tk', c', rfl, hS', hc', fun b o e => ?_⟩
        have hb0 : b < s.heap.objs.size := Heap.lt_size e
        refine hm.heap b o (fun m => ?_) (Heap.get?_push_of_some _ (Heap.get?_push_of_some _ e))
        rw [hz1] at m
        rcases List.mem_cons.mp m with z | z
        · exact absurd z (Nat.ne_of_lt hb0)
        · exact absurd (List.mem_singleton.mp z) (Nat.ne_of_lt (Nat.lt_succ_of_lt hb0))
      · cases r₂ with
        | error e => exact hr₂
        | ok fl₂ =>
          cases fl₂ with
          | ret r =>
            obtain ⟨rfl, h', tk, c', rfl, hS', hc', hk'⟩ := hr₂
            repeat (any_goals (first | assumption | wp_step))
            exact h _ _ _ hS' hc' hk'
          | _ => exact hr₂.elim
    | _ => exact hr.elim
end
/-- set(l) -/
def rSetL (w : World) (K : PySem.W.Frag) : List V → Hp → VK → Prop := fun vs H Q => ∃ (a : Addr) (ns : List Int), vs = [V.ref a] ∧ SqL K H a (ns.map V.int) ∧ ns.length + 1 < scanBound ∧
  ∀ (p : Addr) (c : Nat), H p = none → c ≤ ns.length → Q (.ref p) (upd H p (SetO w p (fun j => decide (j ∈ ns)) c))
end Own
namespace Own
open PySem PySem.Spec PyProof.Rows L2
section
variable {P : Program} {w : World} {A : Around} {E : Value → Shared → Prop} {s : Shared} {a : Addr}
/-- sorted(a set of ints), of any size -/
theorem sorted_set_any {S : Int → Bool} {n : Nat} {Q : Value → Shared → Prop} (R : SetR w s.heap a S n) (hh : A.handled = none)
    (hQ : ∀ s' p (out : Array Value) (c : Nat) (ns : List Int), (∀ b o, s.heap.get? b = some o → s'.heap.get? b = some o) → s'.gens = s.gens → s'.os = s.os → s.heap.objs.size ≤ p →
      s'.heap.get? p = some (seqObj "list" out c) → IntsAre out.toList ns → ns.Pairwise (· < ·) → (∀ k, k ∈ ns ↔ S k = true) → ns.length = n → Q (.ref p) s') :
    wpAny (model P w) A (call (.builtin "sorted") [.ref a]) Q E s := by
  obtain ⟨o, es, ep, t, ho, hex, hd, g, nd, hm, hb, hf, hn, hr, hl⟩ := R
  refine Calls.call_function_entry kind_sorted plain_sorted entry_sorted (args_sorted1 _) ?_
  unfold Builtin.«sorted»
  refine wpAny_bind (m := checkCount "sorted" 1 1 _) (wpAny_pure (wpAny_bind (collect_set (A := A.in1) hh ⟨o, ho, hex.1, hd⟩ hf hb hr hl fun s1 vs k1 hz g1 o1 pm => ?_)))
  have hvl : vs.length = n := by
    rw [pm.length_eq, List.length_map, Array.length_toList]
    exact hn
  have hsz : vs.length ≤ sizeLine := by
    have e : scanBound ≤ sizeLine := by decide
    rw [hvl, ← hn]
    omega
  have hI : IntsAre vs (vs.map Builtin.Re.reRawOf) := by
    refine ints_of vs fun v hv => ?_
    obtain ⟨e, he, q⟩ := List.mem_map.mp (pm.mem_iff.mp hv)
    obtain ⟨k, tk, h1, _⟩ := g e he
    exact ⟨k, tk, q.symm.trans h1⟩
  have pk : (vs.map Builtin.Re.reRawOf).Perm (es.toList.map keyOf) := by
    have q := pm.map Builtin.Re.reRawOf
    rw [List.map_map] at q
    exact q
  refine wpAny_bind (wpAny_newList ?_ hsz)
  have hoL : (s1.heap.push (seqObj "list" vs.toArray 0)).get? s1.heap.objs.size = some (seqObj "list" vs.toArray 0) := Heap.get?_push_size _ rfl
  refine wpAny_bind (wpAny_holding (wpAny_call_entry slot_list_sort ⟨_, hoL, rfl⟩ entry_list_sort (SrtO.list_sort_ord SrtO.swo_int hoL hsz (fun h2 => SrtO.ints_sortable hI h2) fun out h1 h2 => ⟨_, rfl, ?_⟩) (args_list_sort _)))
  obtain ⟨a1, a2, a3⟩ := SrtO.ints_out hI h1 h2
  obtain ⟨c, hc⟩ := sortedHeap_at (vs := vs) (out := out.toArray) hoL
  have pn : (out.map SrtO.iv).Perm (es.toList.map keyOf) := a2.trans pk
  refine wpAny_pure ⟨_, rfl, hQ _ s1.heap.objs.size out.toArray c (out.map SrtO.iv) (fun b u e => ?_) g1 o1 hz hc a1 (lt_of_le_nodup _ a3 (pn.nodup_iff.mpr nd)) (fun k => ?_) ?_⟩
  · have q := k1 b u e
    have hlt := Heap.lt_size q
    show (sortedHeap (s1.heap.push (seqObj "list" vs.toArray 0)) s1.heap.objs.size vs out.toArray).get? b = some u
    rw [sortedHeap_old (Nat.ne_of_lt hlt) (by rw [size_push']; exact Nat.lt_succ_of_lt hlt)]
    exact Heap.get?_push_of_some _ q
  · rw [pn.mem_iff, ← hm k]
  · rw [pn.length_eq, List.length_map, Array.length_toList]
    exact hn
end
section
variable {X : Cx}
/-- a set of the ints ns stands at p -/
def SetAtI (w : World) (H : Hp) (p : Addr) (ns : List Int) : Prop := ∃ c, H p = some (SetO w p (fun j => decide (j ∈ ns)) c)
def rSet1 (w : World) (K : PySem.W.Frag) : List V → Hp → VK → Prop := fun vs H Q => ∃ (a : Addr) (ns : List Int), vs = [V.ref a] ∧ SqL K H a (ns.map V.int) ∧ ns.length + 1 < 4096 ∧
  ∀ (p : Addr) (c : Nat), H p = none → Q (.ref p) (upd H p (SetO w p (fun j => decide (j ∈ ns)) c))
theorem call_set1 (hc : X.calm = true) : CallR X (.type "set") (rSet1 X.w X.K) := by
  intro pins s σ H vs us Q I r h
  obtain ⟨a, ns, rfl, hs, hb, q⟩ := h
  obtain ⟨its, rv, hl, hz⟩ := I.list hs
  rw [Vals.ref1 r]
  refine set_of_list ns (I.ok.hd hc) hl.isList (by rw [List.toList_toArray]; exact rv.ints) hb fun h' tk c R _ hk => ?_
  exact ⟨.ref _, _, I.laid hk (Nat.le_refl _) (setO_new R), rfl, q _ c (I.hok.fresh (Nat.le_refl _))⟩
def rSorted1 (w : World) : List V → Hp → VK → Prop := fun vs H Q => ∃ (a : Addr) (S : Int → Bool) (n : Nat), vs = [V.ref a] ∧ H a = some (SetO w a S n) ∧
  ∀ (ns : List Int) (p : Addr), ns.Pairwise (· < ·) → (∀ k : Int, k ∈ ns ↔ S k = true) → H p = none → Q (.ref p) (upd H p (.lst (ns.map V.int)))
theorem call_sorted1 (hc : X.calm = true) : CallR X (.builtin "sorted") (rSorted1 X.w) := by
  intro pins s σ H vs us Q I r h
  obtain ⟨a, S, n, rfl, ha, q⟩ := h
  have R := setO_get I ha
  have hb : n < scanBound := by
    obtain ⟨o, es, ep, t, ho, hex, hd, g, nd, hm, hb, hf, hn, _⟩ := R
    rw [← hn]
    exact hb
  rw [Vals.ref1 r]
  refine sorted_set_any R (I.ok.hd hc) fun s' p out c ns k g o hp hg hi hs hm hl => ?_
  have hlen : (ns.map V.int).length ≤ sizeLine := by
    have e : scanBound ≤ sizeLine := by decide
    rw [List.length_map]
    omega
  have hn : H p = none := I.hok.fresh hp
  have J : Inv X pins σ (upd H p (.lst (ns.map V.int))) { s with heap := s'.heap, gens := s'.gens, drawn := s'.drawn, toks := s'.toks } := by
    refine I.call (ch := []) (Un.laid k hp hn) (I.hok.laid k hp ⟨hlen, out.toList, c, vals_of_ints hi, hg⟩) ?_ (fun _ z => nomatch z)
    rw [g]
    exact I.bare
  have e : s' = { s with heap := s'.heap, gens := s'.gens, drawn := s'.drawn, toks := s'.toks } := by
    cases s'
    cases s
    cases o
    rfl
  rw [e]
  exact ⟨.ref p, _, J, rfl, q ns p hs hm hn⟩
end
end Own
namespace Own
open PySem PySem.Spec PyProof.Rows L2
def topS (i : Nat) : Stmt := PySem.Challenge.pw_patternways_k03_whole_words.main.body.getD i (.Pass ⟨0, 0, 0, 0⟩)
/-! ### built-ins by their names -/
theorem bt_len : bootBuiltins "len" = some (.builtin "len") := by decide +kernel
theorem bt_isinstance : bootBuiltins "isinstance" = some (.builtin "isinstance") := by decide +kernel
theorem bt_sum : bootBuiltins "sum" = some (.builtin "sum") := by decide +kernel
theorem bt_max : bootBuiltins "max" = some (.builtin "max") := by decide +kernel
theorem bt_min : bootBuiltins "min" = some (.builtin "min") := by decide +kernel
theorem bt_all : bootBuiltins "all" = some (.builtin "all") := by decide +kernel
theorem bt_any : bootBuiltins "any" = some (.builtin "any") := by decide +kernel
theorem bt_sorted : bootBuiltins "sorted" = some (.builtin "sorted") := by decide +kernel
theorem bt_list : bootBuiltins "list" = some (.type "list") := by decide +kernel
theorem bt_tuple : bootBuiltins "tuple" = some (.type "tuple") := by decide +kernel
theorem bt_int : bootBuiltins "int" = some (.type "int") := by decide +kernel
theorem bt_set : bootBuiltins "set" = some (.type "set") := by decide +kernel
theorem bt_bool : bootBuiltins "bool" = some (.type "bool") := by decide +kernel
theorem bt_str : bootBuiltins "str" = some (.type "str") := by decide +kernel
/-- what the module's names hold -/
structure Bt (mg : Str → Option Value) : Prop where
  len : mg "len" = none
  isinstance : mg "isinstance" = none
  sum : mg "sum" = none
  max : mg "max" = none
  min : mg "min" = none
  all : mg "all" = none
  any : mg "any" = none
  sorted : mg "sorted" = none
  list : mg "list" = none
  tuple : mg "tuple" = none
  int : mg "int" = none
  set : mg "set" = none
  bool : mg "bool" = none
  str : mg "str" = none
  range : mg "range" = none
  enumerate : mg "enumerate" = none
  LETTERS : ∃ t, mg "LETTERS" = some (.str "abc" t)
  MOST_STANDS : ∃ t, mg "MOST_STANDS" = some (.int 40 t)
  MOST_LENGTH : ∃ t, mg "MOST_LENGTH" = some (.int 60 t)
  MOST_INDEX : ∃ t, mg "MOST_INDEX" = some (.int 9999 t)
/-- a module's constant -/
theorem pe_g {X : Cx} {x : Str} {v : V} {pos : Pos} (hg : Gl X x) (h : ∃ u, X.mg x = some u ∧ RelV v u) (hdb : (x == ("__debug__" : Str)) = false := by decide) : PE X (.Name x pos) (tC v) := by
  obtain ⟨u, h1, h2⟩ := h
  exact pe_glob hg h1 h2 hdb
theorem Bt.gLetters {mg : Str → Option Value} (B : Bt mg) : ∃ u, mg "LETTERS" = some u ∧ RelV (.str "abc") u := let ⟨t, h⟩ := B.LETTERS; ⟨_, h, t, rfl⟩
theorem Bt.gStands {mg : Str → Option Value} (B : Bt mg) : ∃ u, mg "MOST_STANDS" = some u ∧ RelV (.int 40) u := let ⟨t, h⟩ := B.MOST_STANDS; ⟨_, h, t, rfl⟩
theorem Bt.gLength {mg : Str → Option Value} (B : Bt mg) : ∃ u, mg "MOST_LENGTH" = some u ∧ RelV (.int 60) u := let ⟨t, h⟩ := B.MOST_LENGTH; ⟨_, h, t, rfl⟩
theorem Bt.gIndex {mg : Str → Option Value} (B : Bt mg) : ∃ u, mg "MOST_INDEX" = some u ∧ RelV (.int 9999) u := let ⟨t, h⟩ := B.MOST_INDEX; ⟨_, h, t, rfl⟩
/-! ### a def that keeps its promise -/
structure Got (P : Program) (w : World) (K : PySem.W.Frag) (mg : Str → Option Value) (base : Heap) (CX : CXT) (k : Nat) (x : Str) (ps : List Str) (sp : Sp) : Prop where
  ex : ∃ f fd, FnOk P w K mg base CX k f fd ps sp ∧ Binds K fd ps [] ∧ PySem.W.keepIn K (.ref f) = true ∧ mg x = some (.ref f)
theorem Got.call {X : Cx} {k : Nat} {x : Str} {ps : List Str} {sp : Sp} {e : Expr} {es : List Expr} {t : TA} {p pos : Pos} (C : Got X.prog X.w X.K X.mg X.base CX0 k x ps sp) (hr : Room k X.A) (hg : Gl X x)
    (ha : PA X (e :: es) t) (hdb : (x == ("__debug__" : Str)) = false := by decide) (he : starEach (e :: es) X.env = (false, eval e X.env) :: starEach es X.env := by rfl) (hpl : (backTo pos (starEach es X.env)).any (·.1) = false := by rfl) :
    PE X (.Call (.Name x p) (e :: es) [] pos) (tCall sp [] E0 t) := by
  obtain ⟨f, fd, F, b, kp, m⟩ := C.ex
  exact pe_call F hr hg m kp b .nil pass0 ha hdb he hpl
/-- the same of a def that may raise, where it does not -/
theorem Got.callL {X : Cx} {k : Nat} {x : Str} {ps : List Str} {sp : Sp} {e : Expr} {es : List Expr} {t : TA} {p pos : Pos} (C : Got X.prog X.w X.K X.mg X.base (L2.CX X.prog X.w) k x ps sp) (hr : Room k X.A) (hg : Gl X x)
    (ha : PA X (e :: es) t) (hdb : (x == ("__debug__" : Str)) = false := by decide) (he : starEach (e :: es) X.env = (false, eval e X.env) :: starEach es X.env := by rfl) (hpl : (backTo pos (starEach es X.env)).any (·.1) = false := by rfl) :
    PE X (.Call (.Name x p) (e :: es) [] pos) (tCall sp [] E0 t) := by
  obtain ⟨f, fd, F, b, kp, m⟩ := C.ex
  exact pe_call F hr hg m kp b .nil passL ha hdb he hpl
/-! ### heaps -/
theorem Same.tup {K : PySem.W.Frag} {H H' : Hp} {a : Addr} {xs : List V} (e : Same H H') (h : SqT K H a xs) : SqT K H' a xs := by
  rcases h with (h | ⟨o, h⟩) | h
  · exact .inl (.inl (e _ _ h))
  · exact .inl (.inr ⟨o, e _ _ h⟩)
  · exact .inr h
theorem same_new {H : Hp} {p : Addr} (h : H p = none) (o : HO) : Same H (upd H p o) := fun b u q => by
  rw [upd_ne (ne_of_none q h)]
  exact q
theorem SqT.new {K : PySem.W.Frag} {H : Hp} {p : Addr} {xs : List V} : SqT K (upd H p (.tup xs)) p xs := .inl (.inl upd_same)
theorem SqL.new {K : PySem.W.Frag} {H : Hp} {p : Addr} {xs : List V} : SqL K (upd H p (.lst xs)) p xs := .inl (.inl upd_same)
theorem tyx_tup {K : PySem.W.Frag} {H : Hp} {a : Addr} {xs : List V} (h : SqT K H a xs) : TyX K H (.ref a) (.type "tuple") := by
  rcases h with (h | ⟨o, h⟩) | ⟨o, its, n, h, c, _⟩
  · exact .base (.tup h)
  · exact .fTuple h
  · exact .kTuple h c
end Own
namespace Own
/-! patterns and their words; words are lists of numbers of letters -/
abbrev Word := List Nat
mutual
inductive Pat where
  | non | emp
  | one (s : List Nat)
  | row (ps : Pats)
  | any (ps : Pats)
  | again (p : Pat) (lo : Nat) (hi : Option Nat)
  | group (p : Pat)
inductive Pats where
  | nil
  | cons (p : Pat) (ps : Pats)
end
/-- n words of A, one behind the other -/
def Pow (A : Word → Prop) : Nat → Word → Prop
  | 0, w => w = []
  | n + 1, w => ∃ u v, w = u ++ v ∧ Pow A n u ∧ A v
def InB (lo : Nat) (hi : Option Nat) (n : Nat) : Prop := lo ≤ n ∧ ∀ h, hi = some h → n ≤ h
mutual
def L : Pat → Word → Prop
  | .non, _ => False
  | .emp, w => w = []
  | .one s, w => ∃ a, a ∈ s ∧ w = [a]
  | .row ps, w => LRow ps w
  | .any ps, w => LAny ps w
  | .again p lo hi, w => ∃ n, InB lo hi n ∧ Pow (L p) n w
  | .group p, w => L p w
def LRow : Pats → Word → Prop
  | .nil, w => w = []
  | .cons p ps, w => ∃ u v, w = u ++ v ∧ L p u ∧ LRow ps v
def LAny : Pats → Word → Prop
  | .nil, _ => False
  | .cons p ps, w => L p w ∨ LAny ps w
end
mutual
def Pat.wt : Pat → Nat
  | .non => 0
  | .emp => 1
  | .one _ => 1
  | .row ps => ps.wt
  | .any ps => ps.wt
  | .again p lo hi => p.wt * (match hi with | some h => h | none => lo + 1)
  | .group p => p.wt
def Pats.wt : Pats → Nat
  | .nil => 0
  | .cons p ps => p.wt + ps.wt
end
mutual
def Pat.parts : Pat → Nat
  | .non => 1
  | .emp => 1
  | .one _ => 1
  | .row ps => 1 + ps.parts
  | .any ps => 1 + ps.parts
  | .again p _ _ => 1 + p.parts
  | .group p => 1 + p.parts
def Pats.parts : Pats → Nat
  | .nil => 0
  | .cons p ps => p.parts + ps.parts
end
mutual
def Pat.depth : Pat → Nat
  | .non => 0
  | .emp => 0
  | .one _ => 0
  | .row ps => ps.depth + 1
  | .any ps => ps.depth + 1
  | .again p _ _ => p.depth + 1
  | .group p => p.depth + 1
def Pats.depth : Pats → Nat
  | .nil => 0
  | .cons p ps => max p.depth ps.depth
end
mutual
/-- a pattern of the size k, as drawn: bounds are in order -/
def Pat.Ok (k : Nat) : Pat → Prop
  | .non => True
  | .emp => True
  | .one s => s ≠ [] ∧ s.length ≤ 3 ∧ ∀ a, a ∈ s → a < k
  | .row ps => ps.Ok k ∧ ps.len ≤ 4
  | .any ps => ps.Ok k ∧ ps.len ≤ 4
  | .again p lo hi => p.Ok k ∧ lo ≤ 3 ∧ ∀ h, hi = some h → lo ≤ h ∧ 1 ≤ h ∧ h ≤ 3
  | .group p => p.Ok k
def Pats.Ok (k : Nat) : Pats → Prop
  | .nil => True
  | .cons p ps => p.Ok k ∧ ps.Ok k
def Pats.len : Pats → Nat
  | .nil => 0
  | .cons _ ps => ps.len + 1
end
/-! ### words between two places of a text -/
def seg (t : Word) (i j : Nat) : Word := (t.take j).drop i
theorem seg_length {t : Word} {i j : Nat} (h : i ≤ j) (hj : j ≤ t.length) : (seg t i j).length = j - i := by
  unfold seg
  rw [List.length_drop, List.length_take]
  omega
theorem seg_self {t : Word} {i : Nat} : seg t i i = [] := by
  unfold seg
  apply List.drop_eq_nil_of_le
  rw [List.length_take]
  omega
theorem seg_append {t : Word} {i j m : Nat} (h : i ≤ j) (h' : j ≤ m) : seg t i j ++ seg t j m = seg t i m := by
  unfold seg
  apply List.ext_getElem?
  intro n
  by_cases hj : j ≤ t.length
  · have hl : (List.drop i (List.take j t)).length = j - i := by
      rw [List.length_drop, List.length_take]
      omega
    by_cases hn : n < j - i
    · rw [List.getElem?_append_left (by omega), List.getElem?_drop, List.getElem?_drop, List.getElem?_take, List.getElem?_take, if_pos (by omega), if_pos (by omega)]
    · rw [List.getElem?_append_right (by omega), hl, List.getElem?_drop, List.getElem?_drop]
      congr 1
      omega
  · have e1 : List.take j t = t := List.take_of_length_le (by omega)
    have e2 : List.take m t = t := List.take_of_length_le (by omega)
    rw [e1, e2]
    have e3 : List.drop j t = [] := List.drop_eq_nil_of_le (by omega)
    rw [e3, List.append_nil]
theorem seg_split {t u v : Word} {i m : Nat} (h : i ≤ m) (hm : m ≤ t.length) (e : seg t i m = u ++ v) : ∃ j, i ≤ j ∧ j ≤ m ∧ seg t i j = u ∧ seg t j m = v := by
  have hl := seg_length h hm
  rw [e, List.length_append] at hl
  refine ⟨i + u.length, by omega, by omega, ?_⟩
  have q : seg t i (i + u.length) ++ seg t (i + u.length) m = u ++ v := by
    rw [seg_append (by omega) (by omega), e]
  exact List.append_inj q (by rw [seg_length (by omega) (by omega)]; omega)
theorem seg_one {t : Word} {i a : Nat} (h : t[i]? = some a) : seg t i (i + 1) = [a] := by
  have hi : i < t.length := (List.getElem?_eq_some_iff.mp h).1
  unfold seg
  apply List.ext_getElem?
  intro n
  rw [List.getElem?_drop, List.getElem?_take]
  cases n with
  | zero =>
    rw [if_pos (by omega)]
    simpa using h
  | succ n =>
    rw [if_neg (by omega)]
    simp
theorem seg_all {t : Word} : seg t 0 t.length = t := by
  unfold seg
  simp
/-- from place i one comes to place j by a word of A -/
def Go (A : Word → Prop) (t : Word) (i j : Nat) : Prop := i ≤ j ∧ j ≤ t.length ∧ A (seg t i j)
theorem go_le {A : Word → Prop} {t : Word} {i j : Nat} (h : Go A t i j) : i ≤ j ∧ j ≤ t.length := ⟨h.1, h.2.1⟩
theorem go_non {t : Word} {i j : Nat} : ¬ Go (L .non) t i j := by
  rintro ⟨_, _, h⟩
  unfold L at h
  exact h
theorem go_emp {t : Word} {i j : Nat} (hi : i ≤ t.length) : Go (L .emp) t i j ↔ j = i := by
  constructor
  · rintro ⟨h1, h2, h⟩
    unfold L at h
    have q := seg_length h1 h2
    rw [h] at q
    simp at q
    omega
  · rintro rfl
    refine ⟨Nat.le_refl _, hi, ?_⟩
    unfold L
    exact seg_self
theorem go_one {t : Word} {s : List Nat} {i j : Nat} : Go (L (.one s)) t i j ↔ ∃ a, t[i]? = some a ∧ a ∈ s ∧ j = i + 1 := by
  constructor
  · rintro ⟨h1, h2, h⟩
    unfold L at h
    obtain ⟨a, ha, e⟩ := h
    have q := seg_length h1 h2
    rw [e] at q
    simp at q
    have hj : j = i + 1 := by omega
    subst hj
    have hi : i < t.length := by omega
    refine ⟨a, ?_, ha, rfl⟩
    have z := seg_one (List.getElem?_eq_getElem hi)
    rw [e] at z
    rw [List.getElem?_eq_getElem hi]
    simp at z
    rw [z]
  · rintro ⟨a, h, ha, rfl⟩
    have hi : i < t.length := (List.getElem?_eq_some_iff.mp h).1
    refine ⟨by omega, by omega, ?_⟩
    unfold L
    exact ⟨a, ha, seg_one h⟩
theorem go_seq {A B : Word → Prop} {t : Word} {i m : Nat} : Go (fun w => ∃ u v, w = u ++ v ∧ A u ∧ B v) t i m ↔ ∃ j, Go A t i j ∧ Go B t j m := by
  constructor
  · rintro ⟨h1, h2, u, v, e, ha, hb⟩
    obtain ⟨j, hj1, hj2, rfl, rfl⟩ := seg_split h1 h2 e
    exact ⟨j, ⟨hj1, by omega, ha⟩, ⟨hj2, h2, hb⟩⟩
  · rintro ⟨j, ⟨h1, h2, ha⟩, ⟨h3, h4, hb⟩⟩
    exact ⟨by omega, h4, _, _, (seg_append h1 h3).symm, ha, hb⟩
theorem go_row_nil {t : Word} {i j : Nat} (hi : i ≤ t.length) : Go (LRow .nil) t i j ↔ j = i := by
  constructor
  · rintro ⟨h1, h2, h⟩
    unfold LRow at h
    have q := seg_length h1 h2
    rw [h] at q
    simp at q
    omega
  · rintro rfl
    refine ⟨Nat.le_refl _, hi, ?_⟩
    unfold LRow
    exact seg_self
theorem go_row_cons {p : Pat} {ps : Pats} {t : Word} {i m : Nat} : Go (LRow (.cons p ps)) t i m ↔ ∃ j, Go (L p) t i j ∧ Go (LRow ps) t j m := by
  have e : LRow (.cons p ps) = fun w => ∃ u v, w = u ++ v ∧ L p u ∧ LRow ps v := by
    funext w
    rw [LRow]
  rw [e]
  exact go_seq
theorem go_any_nil {t : Word} {i j : Nat} : ¬ Go (LAny .nil) t i j := by
  rintro ⟨_, _, h⟩
  unfold LAny at h
  exact h
theorem go_any_cons {p : Pat} {ps : Pats} {t : Word} {i j : Nat} : Go (LAny (.cons p ps)) t i j ↔ Go (L p) t i j ∨ Go (LAny ps) t i j := by
  unfold Go
  rw [LAny]
  constructor
  · rintro ⟨h1, h2, h | h⟩
    · exact .inl ⟨h1, h2, h⟩
    · exact .inr ⟨h1, h2, h⟩
  · rintro (⟨h1, h2, h⟩ | ⟨h1, h2, h⟩)
    · exact ⟨h1, h2, .inl h⟩
    · exact ⟨h1, h2, .inr h⟩
/-- n turns -/
def GoN (A : Word → Prop) (t : Word) (n i j : Nat) : Prop := Go (Pow A n) t i j
theorem goN_zero {A : Word → Prop} {t : Word} {i j : Nat} (hi : i ≤ t.length) : GoN A t 0 i j ↔ j = i := by
  constructor
  · rintro ⟨h1, h2, h⟩
    have h : seg t i j = [] := h
    have q := seg_length h1 h2
    rw [h] at q
    simp at q
    omega
  · rintro rfl
    exact ⟨Nat.le_refl _, hi, seg_self⟩
theorem goN_succ {A : Word → Prop} {t : Word} {n i m : Nat} : GoN A t (n + 1) i m ↔ ∃ j, GoN A t n i j ∧ Go A t j m := go_seq (A := Pow A n) (B := A)
theorem go_again {p : Pat} {lo : Nat} {hi : Option Nat} {t : Word} {i j : Nat} : Go (L (.again p lo hi)) t i j ↔ ∃ n, InB lo hi n ∧ GoN (L p) t n i j := by
  unfold Go GoN Go
  rw [L]
  constructor
  · rintro ⟨h1, h2, n, h3, h4⟩
    exact ⟨n, h3, h1, h2, h4⟩
  · rintro ⟨n, h3, h1, h2, h4⟩
    exact ⟨h1, h2, n, h3, h4⟩
/-- once a turn brings nothing new, no later one does -/
theorem goN_stop {A : Word → Prop} {t : Word} {i lo n : Nat} (h : ∀ j, GoN A t n i j → ∃ m, lo ≤ m ∧ m < n ∧ GoN A t m i j) : ∀ d j, GoN A t (n + d) i j → ∃ m, lo ≤ m ∧ m < n ∧ GoN A t m i j := by
  intro d
  induction d with
  | zero =>
    intro j hj
    exact h j hj
  | succ d ih =>
    intro j hj
    obtain ⟨x, hx, hg⟩ := goN_succ.mp (show GoN A t ((n + d) + 1) i j from hj)
    obtain ⟨m, h1, h2, h3⟩ := ih x hx
    have hm : GoN A t (m + 1) i j := goN_succ.mpr ⟨x, h3, hg⟩
    by_cases hlt : m + 1 < n
    · exact ⟨m + 1, by omega, hlt, hm⟩
    · have e : m + 1 = n := by omega
      rw [e] at hm
      exact h j hm
end Own
namespace Own
/-! tables of words, as lists -/
structure Tab where
  rows : List (List Nat)
  ends : List Bool
/-- the stand behind a letter -/
def Tab.st (T : Tab) (s l : Nat) : Nat := (T.rows.getD s []).getD l 0
def Tab.run (T : Tab) (s : Nat) : Word → Nat
  | [] => s
  | l :: w => T.run (T.st s l) w
def Tab.fin (T : Tab) (s : Nat) : Bool := T.ends.getD s false
def Tab.acc (T : Tab) (s : Nat) (w : Word) : Bool := T.fin (T.run s w)
/-- right, of n stands and k letters -/
structure Tab.Ok (T : Tab) (k n : Nat) : Prop where
  k1 : 1 ≤ k
  k3 : k ≤ 3
  n1 : 1 ≤ n
  n40 : n ≤ 40
  rl : T.rows.length = n
  el : T.ends.length = n
  row : ∀ r, r ∈ T.rows → r.length = k ∧ ∀ x, x ∈ r → x < n
  par : ∀ i, 0 < i → i < n → ∃ j, j < i ∧ ∃ l, l < k ∧ T.st j l = i
section
variable {T : Tab} {k n : Nat}
theorem Tab.Ok.st_lt (O : T.Ok k n) {s l : Nat} (hs : s < n) (hl : l < k) : T.st s l < n := by
  have h1 : s < T.rows.length := by rw [O.rl]; exact hs
  unfold Tab.st
  have e1 : T.rows.getD s [] = T.rows[s] := by
    rw [List.getD_eq_getElem?_getD, List.getElem?_eq_getElem h1, Option.getD_some]
  obtain ⟨q1, q2⟩ := O.row _ (List.getElem_mem h1)
  have h2 : l < T.rows[s].length := by rw [q1]; exact hl
  rw [e1, List.getD_eq_getElem?_getD, List.getElem?_eq_getElem h2, Option.getD_some]
  exact q2 _ (List.getElem_mem h2)
theorem Tab.run_append (T : Tab) (s : Nat) (u v : Word) : T.run s (u ++ v) = T.run (T.run s u) v := by
  induction u generalizing s with
  | nil => rfl
  | cons l u ih => exact ih _
/-- a word of the k letters -/
def Wd (k : Nat) (w : Word) : Prop := ∀ l, l ∈ w → l < k
theorem Tab.Ok.run_lt (O : T.Ok k n) {w : Word} : ∀ {s : Nat}, s < n → Wd k w → T.run s w < n := by
  induction w with
  | nil =>
    intro s hs _
    exact hs
  | cons l w ih =>
    intro s hs hw
    exact ih (O.st_lt hs (hw l List.mem_cons_self)) fun x hx => hw x (List.mem_cons_of_mem _ hx)
theorem Tab.Ok.reach (O : T.Ok k n) : ∀ i, i < n → ∃ w, Wd k w ∧ T.run 0 w = i := by
  intro i
  induction i using Nat.strongRecOn with
  | ind i ih =>
    intro hi
    by_cases h0 : i = 0
    · subst h0
      exact ⟨[], fun l h => by simp at h, rfl⟩
    · obtain ⟨j, hj, l, hl, e⟩ := O.par i (by omega) hi
      obtain ⟨w, hw, ew⟩ := ih j hj (by omega)
      refine ⟨w ++ [l], fun x hx => ?_, ?_⟩
      · rcases List.mem_append.mp hx with q | q
        · exact hw x q
        · rw [List.mem_singleton.mp q]
          exact hl
      · rw [Tab.run_append, ew]
        exact e
end
/-! ### all words of a length, in their order -/
def texts (k : Nat) : Nat → List Word
  | 0 => [[]]
  | m + 1 => (List.range k).flatMap fun l => (texts k m).map (l :: ·)
theorem mem_texts {k : Nat} : ∀ {m : Nat} {w : Word}, w ∈ texts k m ↔ w.length = m ∧ Wd k w
  | 0, w => by
    unfold texts
    rw [List.mem_singleton]
    constructor
    · rintro rfl
      exact ⟨rfl, fun l h => by simp at h⟩
    · rintro ⟨h, _⟩
      exact List.length_eq_zero_iff.mp h
  | m + 1, w => by
    unfold texts
    rw [List.mem_flatMap]
    constructor
    · rintro ⟨l, hl, h⟩
      obtain ⟨v, hv, rfl⟩ := List.mem_map.mp h
      obtain ⟨h1, h2⟩ := mem_texts.mp hv
      refine ⟨by rw [List.length_cons, h1], fun x hx => ?_⟩
      rcases List.mem_cons.mp hx with rfl | hx
      · exact List.mem_range.mp hl
      · exact h2 x hx
    · rintro ⟨h1, h2⟩
      cases w with
      | nil => simp at h1
      | cons l v =>
        refine ⟨l, List.mem_range.mpr (h2 l List.mem_cons_self), List.mem_map.mpr ⟨v, mem_texts.mpr ⟨?_, fun x hx => h2 x (List.mem_cons_of_mem _ hx)⟩, rfl⟩⟩
        rw [List.length_cons] at h1
        omega
/-- by the last letter: the same list -/
theorem texts_snoc (k : Nat) : ∀ m, texts k (m + 1) = (texts k m).flatMap fun w => (List.range k).map fun l => w ++ [l]
  | 0 => by
    unfold texts texts
    simp only [List.flatMap_cons, List.flatMap_nil, List.append_nil, List.nil_append, List.map_cons, List.map_nil]
    induction (List.range k) with
    | nil => rfl
    | cons a r ih => rw [List.flatMap_cons, ih, List.map_cons]; rfl
  | m + 1 => by
    have ih := texts_snoc k m
    show (List.range k).flatMap (fun l => (texts k (m + 1)).map (l :: ·)) = ((List.range k).flatMap fun l => (texts k m).map (l :: ·)).flatMap fun w => (List.range k).map fun l => w ++ [l]
    rw [List.flatMap_assoc]
    congr 1
    funext l
    rw [ih, List.map_flatMap, List.flatMap_map]
    congr 1
    funext w
    rw [List.map_map]
    rfl
theorem texts_length (k : Nat) : ∀ m, (texts k m).length = k ^ m
  | 0 => rfl
  | m + 1 => by
    unfold texts
    rw [List.length_flatMap]
    simp only [List.length_map, texts_length k m]
    rw [List.map_const', List.sum_replicate_nat, List.length_range, Nat.pow_succ, Nat.mul_comm]
/-- order: a before b -/
def lexLt : Word → Word → Prop
  | _, [] => False
  | [], _ :: _ => True
  | a :: u, b :: v => a < b ∨ a = b ∧ lexLt u v
def lexLtB : Word → Word → Bool
  | _, [] => false
  | [], _ :: _ => true
  | a :: u, b :: v => decide (a < b) || (decide (a = b) && lexLtB u v)
theorem lexLtB_iff : ∀ u v, lexLtB u v = true ↔ lexLt u v
  | _, [] => by simp [lexLtB, lexLt]
  | [], _ :: _ => by simp [lexLtB, lexLt]
  | a :: u, b :: v => by simp [lexLtB, lexLt, lexLtB_iff u v]
theorem lex_irrefl : ∀ u, ¬ lexLt u u
  | [] => fun h => h
  | a :: u => by
    rintro (h | ⟨_, h⟩)
    · omega
    · exact lex_irrefl u h
theorem lex_asymm : ∀ u v, lexLt u v → ¬ lexLt v u
  | u, [] => by simp [lexLt]
  | [], _ :: _ => fun _ h => h
  | a :: u, b :: v => by
    rintro (h | ⟨rfl, h⟩) (q | ⟨e, q⟩)
    · omega
    · omega
    · omega
    · exact lex_asymm u v h q
theorem texts_sorted (k : Nat) : ∀ m, (texts k m).Pairwise lexLt
  | 0 => List.pairwise_singleton _ _
  | m + 1 => by
    unfold texts
    have ih := texts_sorted k m
    have key : ∀ r : List Nat, r.Pairwise (· < ·) → (r.flatMap fun l => (texts k m).map (l :: ·)).Pairwise lexLt := by
      intro r
      induction r with
      | nil =>
        intro _
        exact List.Pairwise.nil
      | cons a r ihr =>
        intro hp
        obtain ⟨h1, h2⟩ := List.pairwise_cons.mp hp
        rw [List.flatMap_cons]
        refine List.pairwise_append.mpr ⟨?_, ihr h2, ?_⟩
        · exact List.pairwise_map.mpr (ih.imp fun h => .inr ⟨rfl, h⟩)
        · intro x hx y hy
          obtain ⟨u, _, rfl⟩ := List.mem_map.mp hx
          obtain ⟨b, hb, hy⟩ := List.mem_flatMap.mp hy
          obtain ⟨v, _, rfl⟩ := List.mem_map.mp hy
          exact .inl (h1 b hb)
    exact key _ List.pairwise_lt_range
/-- in a list in order, the place of an item is how many are before it -/
theorem place_of {l : List Word} (h : l.Pairwise lexLt) : ∀ {i : Nat} {w : Word}, l[i]? = some w → (l.filter (lexLtB · w)).length = i := by
  induction l with
  | nil =>
    intro i w e
    simp at e
  | cons a r ih =>
    intro i w e
    obtain ⟨h1, h2⟩ := List.pairwise_cons.mp h
    cases i with
    | zero =>
      have e : a = w := by simpa using e
      subst e
      have z : (a :: r).filter (lexLtB · a) = [] := by
        apply List.filter_eq_nil_iff.mpr
        intro x hx q
        have q := (lexLtB_iff _ _).mp q
        rcases List.mem_cons.mp hx with rfl | hx
        · exact lex_irrefl _ q
        · exact lex_asymm _ _ q (h1 x hx)
      rw [z]
      rfl
    | succ i =>
      have e : r[i]? = some w := by simpa using e
      have hw : w ∈ r := List.mem_of_getElem? e
      rw [List.filter_cons, if_pos ((lexLtB_iff _ _).mpr (h1 w hw)), List.length_cons, ih h2 e]
/-- the words of length m from a stand -/
def Tab.W (T : Tab) (k s m : Nat) : List Word := (texts k m).filter (T.acc s)
/-- all words up to length m (not m itself) -/
def Tab.WB (T : Tab) (k : Nat) : Nat → List Word
  | 0 => []
  | m + 1 => T.WB k m ++ T.W k 0 m
theorem W_succ (T : Tab) (k s m : Nat) : T.W k s (m + 1) = (List.range k).flatMap fun l => (T.W k (T.st s l) m).map (l :: ·) := by
  unfold Tab.W
  rw [texts, List.filter_flatMap]
  congr 1
  funext l
  rw [List.filter_map]
  rfl
theorem mem_W {T : Tab} {k s m : Nat} {w : Word} : w ∈ T.W k s m ↔ w.length = m ∧ Wd k w ∧ T.acc s w = true := by
  unfold Tab.W
  rw [List.mem_filter, mem_texts]
  constructor
  · rintro ⟨⟨a, b⟩, c⟩
    exact ⟨a, b, c⟩
  · rintro ⟨a, b, c⟩
    exact ⟨⟨a, b⟩, c⟩
theorem W_sorted (T : Tab) (k s m : Nat) : (T.W k s m).Pairwise lexLt := (texts_sorted k m).filter _
end Own
namespace Own
/-! going along letters from stand 0: stands and their first texts -/
abbrev Acc := List (Nat × Word)
def fAdd (acc : Acc) (x : Nat) (w : Word) : Acc := if x ∈ acc.map (·.1) then acc else acc ++ [(x, w)]
/-- the letters below m of a stand s with the text w -/
def fRow (T : Tab) (s : Nat) (w : Word) : Nat → Acc → Acc
  | 0, acc => acc
  | m + 1, acc => fAdd (fRow T s w m acc) (T.st s m) (w ++ [m])
def fF (T : Tab) (k : Nat) : Nat → Acc
  | 0 => [(0, [])]
  | i + 1 => match (fF T k i)[i]? with
    | some (s, w) => fRow T s w k (fF T k i)
    | none => fF T k i
theorem fAdd_pre (acc : Acc) (x : Nat) (w : Word) : acc <+: fAdd acc x w := by
  unfold fAdd
  split
  · exact List.prefix_refl _
  · exact List.prefix_append _ _
theorem fRow_pre (T : Tab) (s : Nat) (w : Word) : ∀ (m : Nat) (acc : Acc), acc <+: fRow T s w m acc
  | 0, acc => List.prefix_refl _
  | m + 1, acc => (fRow_pre T s w m acc).trans (fAdd_pre _ _ _)
theorem fF_pre (T : Tab) (k : Nat) (i : Nat) : fF T k i <+: fF T k (i + 1) := by
  rw [fF]
  split
  · exact fRow_pre _ _ _ _ _
  · exact List.prefix_refl _
theorem fF_mono (T : Tab) (k : Nat) {i j : Nat} (h : i ≤ j) : fF T k i <+: fF T k j := by
  induction h with
  | refl => exact List.prefix_refl _
  | step _ ih => exact ih.trans (fF_pre T k _)
theorem pre_get {α : Type} {l m : List α} (h : l <+: m) {i : Nat} {x : α} (e : l[i]? = some x) : m[i]? = some x := by
  obtain ⟨r, rfl⟩ := h
  have hi : i < l.length := (List.getElem?_eq_some_iff.mp e).1
  rw [List.getElem?_append_left hi]
  exact e
/-- what holds of the list at all times -/
structure FOk (T : Tab) (k n : Nat) (acc : Acc) : Prop where
  nd : (acc.map (·.1)).Nodup
  lt : ∀ s w, (s, w) ∈ acc → s < n ∧ Wd k w ∧ T.run 0 w = s ∧ w.length ≤ acc.length
  z : acc[0]? = some (0, [])
theorem nodup_snoc {α : Type} {l : List α} {a : α} (h : l.Nodup) (ha : a ∉ l) : (l ++ [a]).Nodup := by
  refine List.nodup_append.mpr ⟨h, by simp, ?_⟩
  intro x hx y hy
  rw [List.mem_singleton.mp hy]
  exact fun e => ha (e ▸ hx)
theorem FOk.add {T : Tab} {k n : Nat} {acc : Acc} (F : FOk T k n acc) {s m : Nat} {w : Word} (O : T.Ok k n) (hw : Wd k w) (hl : w.length < acc.length) (hs : s < n) (hr : T.run 0 w = s) (hm : m < k) : FOk T k n (fAdd acc (T.st s m) (w ++ [m])) := by
  unfold fAdd
  split
  · exact F
  · rename_i h
    refine ⟨?_, ?_, ?_⟩
    · rw [List.map_append]
      exact nodup_snoc F.nd h
    · intro s' w' hm'
      rcases List.mem_append.mp hm' with q | q
      · obtain ⟨a, b, c, d⟩ := F.lt s' w' q
        exact ⟨a, b, c, by rw [List.length_append]; omega⟩
      · obtain ⟨rfl, rfl⟩ := Prod.mk.inj (List.mem_singleton.mp q)
        refine ⟨O.st_lt hs hm, fun x hx => ?_, ?_, ?_⟩
        · rcases List.mem_append.mp hx with q | q
          · exact hw x q
          · rw [List.mem_singleton.mp q]
            exact hm
        · rw [Tab.run_append, hr]
          rfl
        · rw [List.length_append, List.length_append]
          simp
          omega
    · exact pre_get (List.prefix_append _ _) F.z
theorem FOk.row {T : Tab} {k n : Nat} {acc : Acc} (F : FOk T k n acc) {s : Nat} {w : Word} (O : T.Ok k n) (hw : Wd k w) (hl : w.length < acc.length) (hs : s < n) (hr : T.run 0 w = s) : ∀ m, m ≤ k → FOk T k n (fRow T s w m acc)
  | 0, _ => F
  | m + 1, h => by
    have ih := FOk.row F O hw hl hs hr m (by omega)
    refine ih.add O hw ?_ hs hr (by omega)
    have q := (fRow_pre T s w m acc).length_le
    omega
theorem fF_ok {T : Tab} {k n : Nat} (O : T.Ok k n) : ∀ i, FOk T k n (fF T k i) ∧ ∀ (j s : Nat) (w : Word), (fF T k i)[j]? = some (s, w) → w.length ≤ j
  | 0 => by
    refine ⟨⟨by simp [fF], ?_, rfl⟩, ?_⟩
    · intro s w h
      have e : (s, w) = (0, []) := by simpa [fF] using h
      obtain ⟨rfl, rfl⟩ := Prod.mk.inj e
      exact ⟨O.n1, fun l h => by simp at h, rfl, by simp⟩
    · intro j s w h
      cases j with
      | zero =>
        have e : (s, w) = (0, []) := by simpa [fF, eq_comm] using h
        obtain ⟨rfl, rfl⟩ := Prod.mk.inj e
        simp
      | succ j => simp [fF] at h
  | i + 1 => by
    obtain ⟨F, hl⟩ := fF_ok O i
    rw [fF]
    split
    · rename_i s w e
      obtain ⟨h1, h2, h3, _⟩ := F.lt s w (List.mem_of_getElem? e)
      have hi : i < (fF T k i).length := (List.getElem?_eq_some_iff.mp e).1
      have hwl := hl i s w e
      refine ⟨F.row O h2 (by omega) h1 h3 k (Nat.le_refl _), ?_⟩
      have key : ∀ m, ∀ (j s' : Nat) (w' : Word), (fRow T s w m (fF T k i))[j]? = some (s', w') → w'.length ≤ j := by
        intro m
        induction m with
        | zero => exact hl
        | succ m ih =>
          intro j s' w' he
          rw [fRow] at he
          unfold fAdd at he
          split at he
          · exact ih j s' w' he
          · by_cases hj : j < (fRow T s w m (fF T k i)).length
            · rw [List.getElem?_append_left hj] at he
              exact ih j s' w' he
            · rw [List.getElem?_append_right (by omega)] at he
              have hz : j - (fRow T s w m (fF T k i)).length = 0 := by
                have := (List.getElem?_eq_some_iff.mp he).1
                simp at this
                omega
              rw [hz] at he
              have e2 : (s', w') = (T.st s m, w ++ [m]) := by simpa [eq_comm] using he
              obtain ⟨_, rfl⟩ := Prod.mk.inj e2
              have q := (fRow_pre T s w m (fF T k i)).length_le
              rw [List.length_append]
              simp
              omega
      exact key k
    · exact ⟨F, hl⟩
theorem nodup_lt_length : ∀ (n : Nat) {l : List Nat}, l.Nodup → (∀ x, x ∈ l → x < n) → l.length ≤ n
  | 0, l, _, h => by
    cases l with
    | nil => simp
    | cons a r => exact absurd (h a List.mem_cons_self) (by omega)
  | n + 1, l, nd, h => by
    have h1 : (l.filter (· ≠ n)).length ≤ n := by
      refine nodup_lt_length n (nd.filter _) fun x hx => ?_
      obtain ⟨a, b⟩ := List.mem_filter.mp hx
      have := h x a
      simp at b
      omega
    have h2 : l.length ≤ (l.filter (· ≠ n)).length + 1 := by
      clear h h1
      induction l with
      | nil => simp
      | cons a r ih =>
        obtain ⟨n1, n2⟩ := List.nodup_cons.mp nd
        by_cases e : a = n
        · subst e
          have z : r.filter (· ≠ a) = r := by
            apply List.filter_eq_self.mpr
            intro x hx
            simp
            exact fun q => n1 (q ▸ hx)
          rw [List.filter_cons]
          simp
          have z' : r.filter (fun x => !decide (x = a)) = r := by simpa using z
          rw [z']
          exact Nat.le_refl _
        · rw [List.filter_cons, if_pos (by simpa using e)]
          have := ih n2
          simp only [List.length_cons]
          omega
    omega
theorem fF_length {T : Tab} {k n : Nat} (O : T.Ok k n) (i : Nat) : (fF T k i).length ≤ n := by
  obtain ⟨F, _⟩ := fF_ok O i
  have h := nodup_lt_length n F.nd fun x hx => by
    obtain ⟨p, hp, rfl⟩ := List.mem_map.mp hx
    exact (F.lt p.1 p.2 hp).1
  rwa [List.length_map] at h
/-- where it comes to its end, it stays -/
theorem fF_stop {T : Tab} {k i : Nat} (h : (fF T k i).length ≤ i) : ∀ j, i ≤ j → fF T k j = fF T k i := by
  intro j hj
  induction hj with
  | refl => rfl
  | step hj ih =>
    rename_i m
    rw [fF, ih, List.getElem?_eq_none (by have : i ≤ m := hj; omega)]
theorem fAdd_mem (acc : Acc) (x : Nat) (w : Word) : x ∈ (fAdd acc x w).map (·.1) := by
  unfold fAdd
  split
  · assumption
  · simp
theorem pre_mem {l m : Acc} (h : l <+: m) {x : Nat} (e : x ∈ l.map (·.1)) : x ∈ m.map (·.1) := by
  obtain ⟨r, rfl⟩ := h
  rw [List.map_append]
  exact List.mem_append_left _ e
theorem fRow_mem (T : Tab) (s : Nat) (w : Word) (acc : Acc) : ∀ m l, l < m → T.st s l ∈ (fRow T s w m acc).map (·.1)
  | 0, l, h => by omega
  | m + 1, l, h => by
    rw [fRow]
    by_cases e : l = m
    · subst e
      exact fAdd_mem _ _ _
    · exact pre_mem (fAdd_pre _ _ _) (fRow_mem T s w acc m l (by omega))
/-- the stands behind the j-th one are there -/
theorem fF_closed {T : Tab} {k : Nat} {i j s : Nat} {w : Word} (h : j < i) (e : (fF T k i)[j]? = some (s, w)) {l : Nat} (hl : l < k) : T.st s l ∈ (fF T k i).map (·.1) := by
  have hj : j < (fF T k j).length ∨ (fF T k j).length ≤ j := by omega
  rcases hj with hj | hj
  · have e2 : (fF T k j)[j]? = some (fF T k j)[j] := List.getElem?_eq_getElem hj
    have e3 := pre_get (fF_mono T k (show j ≤ i by omega)) e2
    rw [e] at e3
    have e4 : (fF T k j)[j]? = some (s, w) := by rw [e2, ← Option.some.inj e3]
    refine pre_mem (fF_mono T k (show j + 1 ≤ i by omega)) ?_
    rw [fF, e4]
    exact fRow_mem T s w _ k l hl
  · rw [fF_stop hj i (by omega), List.getElem?_eq_none hj] at e
    cases e
theorem fF_all {T : Tab} {k n : Nat} (O : T.Ok k n) : ∀ x, x < n → x ∈ (fF T k n).map (·.1) := by
  intro x
  induction x using Nat.strongRecOn with
  | ind x ih =>
    intro hx
    by_cases h0 : x = 0
    · subst h0
      obtain ⟨F, _⟩ := fF_ok O n
      exact List.mem_map.mpr ⟨(0, []), List.mem_of_getElem? F.z, rfl⟩
    · obtain ⟨y, hy, l, hl, e⟩ := O.par x (by omega) hx
      obtain ⟨p, hp, ep⟩ := List.mem_map.mp (ih y hy (by omega))
      obtain ⟨j, hj, ej⟩ := List.getElem_of_mem hp
      have hjn := fF_length O n
      have q := fF_closed (i := n) (j := j) (s := p.1) (w := p.2) (by omega) (by rw [List.getElem?_eq_getElem hj, ej]) hl
      rw [ep, e] at q
      exact q
theorem fF_full {T : Tab} {k n : Nat} (O : T.Ok k n) : (fF T k n).length = n := by
  have h1 := fF_length O n
  have h2 : n ≤ ((fF T k n).map (·.1)).length := by
    have sub := fF_all O
    have : (List.range n).length ≤ ((fF T k n).map (·.1)).length := by
      refine (List.nodup_range.length_le_of_subset ?_)
      intro x hx
      exact sub x (List.mem_range.mp hx)
    rwa [List.length_range] at this
  rw [List.length_map] at h2
  omega
end Own
namespace Own
/-! stands from which a word is come to -/
def Leads (T : Tab) (k s : Nat) : Prop := ∃ w, w ≠ [] ∧ Wd k w ∧ T.acc s w = true
def Useful (T : Tab) (k s : Nat) : Prop := ∃ w, Wd k w ∧ T.acc s w = true
def bit (L : List Bool) (s : Nat) : Bool := L.getD s false
def stepL (T : Tab) (L : List Bool) : List Bool := T.rows.map fun row => row.any fun l => T.fin l || bit L l
def LeB (L M : List Bool) : Prop := ∀ s, bit L s = true → bit M s = true
def cntB : List Bool → Nat
  | [] => 0
  | b :: r => cntB r + (if b then 1 else 0)
theorem cntB_le : ∀ L, cntB L ≤ L.length
  | [] => Nat.le_refl _
  | b :: r => by
    have := cntB_le r
    unfold cntB
    rw [List.length_cons]
    split <;> omega
theorem bit_cons_zero {b : Bool} {r : List Bool} : bit (b :: r) 0 = b := rfl
theorem bit_cons_succ {b : Bool} {r : List Bool} {s : Nat} : bit (b :: r) (s + 1) = bit r s := by
  unfold bit
  simp [List.getD_eq_getElem?_getD]
theorem LeB.cnt : ∀ {L M : List Bool}, LeB L M → L.length = M.length → cntB L ≤ cntB M ∧ (L ≠ M → cntB L < cntB M)
  | [], [], _, _ => ⟨Nat.le_refl _, fun h => absurd rfl h⟩
  | [], _ :: _, _, h => by simp at h
  | _ :: _, [], _, h => by simp at h
  | a :: r, b :: q, hl, h => by
    have h1 : LeB r q := fun s hs => by
      have := hl (s + 1) (by rw [bit_cons_succ]; exact hs)
      rwa [bit_cons_succ] at this
    have h0 : a = true → b = true := fun e => hl 0 e
    obtain ⟨i1, i2⟩ := LeB.cnt h1 (by simpa using h)
    unfold cntB
    cases a <;> cases b
    · exact ⟨by simpa using i1, fun e => by
        have := i2 fun z => e (by rw [z])
        simpa using this⟩
    · exact ⟨by simp; omega, fun _ => by simp; omega⟩
    · exact absurd (h0 rfl) (by simp)
    · exact ⟨by simpa using i1, fun e => by
        have := i2 fun z => e (by rw [z])
        simpa using this⟩
section
variable {T : Tab} {k n : Nat}
theorem stepL_length (O : T.Ok k n) (L : List Bool) : (stepL T L).length = n := by
  unfold stepL
  rw [List.length_map, O.rl]
theorem row_mem (O : T.Ok k n) {s : Nat} (hs : s < n) {x : Nat} : x ∈ T.rows.getD s [] ↔ ∃ l, l < k ∧ T.st s l = x := by
  have h1 : s < T.rows.length := by rw [O.rl]; exact hs
  have e1 : T.rows.getD s [] = T.rows[s] := by rw [List.getD_eq_getElem?_getD, List.getElem?_eq_getElem h1, Option.getD_some]
  have hk : (T.rows.getD s []).length = k := by rw [e1]; exact (O.row _ (List.getElem_mem h1)).1
  constructor
  · intro h
    obtain ⟨l, hl, e⟩ := List.getElem_of_mem h
    refine ⟨l, by omega, ?_⟩
    unfold Tab.st
    rw [List.getD_eq_getElem?_getD (l := T.rows.getD s []), List.getElem?_eq_getElem hl]
    exact e
  · rintro ⟨l, hl, e⟩
    have hl2 : l < (T.rows.getD s []).length := by omega
    rw [← e]
    unfold Tab.st
    rw [List.getD_eq_getElem?_getD (l := T.rows.getD s []), List.getElem?_eq_getElem hl2]
    exact List.getElem_mem hl2
theorem bit_step (O : T.Ok k n) (L : List Bool) {s : Nat} (hs : s < n) : bit (stepL T L) s = true ↔ ∃ l, l < k ∧ (T.fin (T.st s l) = true ∨ bit L (T.st s l) = true) := by
  have h1 : s < T.rows.length := by rw [O.rl]; exact hs
  have e1 : T.rows.getD s [] = T.rows[s] := by rw [List.getD_eq_getElem?_getD, List.getElem?_eq_getElem h1, Option.getD_some]
  have e2 : bit (stepL T L) s = (T.rows.getD s []).any fun l => T.fin l || bit L l := by
    unfold bit stepL
    rw [List.getD_eq_getElem?_getD, List.getElem?_map, List.getElem?_eq_getElem h1, e1]
    rfl
  rw [e2, List.any_eq_true]
  constructor
  · rintro ⟨x, hx, h⟩
    obtain ⟨l, hl, rfl⟩ := (row_mem O hs).mp hx
    exact ⟨l, hl, by simpa using h⟩
  · rintro ⟨l, hl, h⟩
    exact ⟨_, (row_mem O hs).mpr ⟨l, hl, rfl⟩, by simpa using h⟩
theorem step_mono (O : T.Ok k n) {L M : List Bool} (h : LeB L M) : LeB (stepL T L) (stepL T M) := by
  intro s hs
  by_cases hn : s < n
  · obtain ⟨l, hl, q⟩ := (bit_step O L hn).mp hs
    refine (bit_step O M hn).mpr ⟨l, hl, ?_⟩
    rcases q with q | q
    · exact .inl q
    · exact .inr (h _ q)
  · unfold bit at hs
    rw [List.getD_eq_getElem?_getD, List.getElem?_eq_none (by rw [stepL_length O]; omega)] at hs
    cases hs
theorem step_sound (O : T.Ok k n) {L : List Bool} (h : ∀ s, s < n → bit L s = true → Leads T k s) {s : Nat} (hs : s < n) (e : bit (stepL T L) s = true) : Leads T k s := by
  obtain ⟨l, hl, q⟩ := (bit_step O L hs).mp e
  rcases q with q | q
  · exact ⟨[l], by simp, fun x hx => by rw [List.mem_singleton.mp hx]; exact hl, q⟩
  · obtain ⟨w, _, hw, ha⟩ := h _ (O.st_lt hs hl) q
    refine ⟨l :: w, by simp, fun x hx => ?_, ha⟩
    rcases List.mem_cons.mp hx with rfl | hx
    · exact hl
    · exact hw x hx
theorem step_fix (O : T.Ok k n) {L : List Bool} (h : L = stepL T L) : ∀ (w : Word) (s : Nat), s < n → w ≠ [] → Wd k w → T.acc s w = true → bit L s = true
  | [], _, _, h, _, _ => absurd rfl h
  | l :: w, s, hs, _, hw, ha => by
    have hl : l < k := hw l List.mem_cons_self
    rw [h]
    refine (bit_step O L hs).mpr ⟨l, hl, ?_⟩
    cases w with
    | nil => exact .inl ha
    | cons m v => exact .inr (step_fix O h (m :: v) _ (O.st_lt hs hl) (by simp) (fun x hx => hw x (List.mem_cons_of_mem _ hx)) ha)
theorem useful_iff (s : Nat) : Useful T k s ↔ T.fin s = true ∨ Leads T k s := by
  constructor
  · rintro ⟨w, hw, ha⟩
    cases w with
    | nil => exact .inl ha
    | cons l v => exact .inr ⟨l :: v, by simp, hw, ha⟩
  · rintro (h | ⟨w, _, hw, ha⟩)
    · exact ⟨[], fun l h => by simp at h, h⟩
    · exact ⟨w, hw, ha⟩
end
end Own
namespace Own
/-! how many texts lead where -/
abbrev Cs := List (Nat × Nat)
def keys (D : Cs) : List Nat := D.map (·.1)
def val : Cs → Nat → Nat
  | [], _ => 0
  | (s, c) :: r, t => if s = t then c else val r t
def putD : Cs → Nat → Nat → Cs
  | [], t, v => [(t, v)]
  | (s, c) :: r, t, v => if s = t then (s, v) :: r else (s, c) :: putD r t v
theorem val_none {D : Cs} {t : Nat} (h : t ∉ keys D) : val D t = 0 := by
  induction D with
  | nil => rfl
  | cons p r ih =>
    have h1 : p.1 ≠ t := fun e => h (by unfold keys; rw [List.map_cons, e]; exact List.mem_cons_self)
    have h2 : t ∉ keys r := fun e => h (by unfold keys; rw [List.map_cons]; exact List.mem_cons_of_mem _ e)
    obtain ⟨s, c⟩ := p
    rw [val, if_neg h1]
    exact ih h2
theorem val_of_mem {D : Cs} (nd : (keys D).Nodup) {s c : Nat} (h : (s, c) ∈ D) : val D s = c := by
  induction D with
  | nil => simp at h
  | cons p r ih =>
    obtain ⟨a, b⟩ := p
    unfold keys at nd
    rw [List.map_cons] at nd
    obtain ⟨n1, n2⟩ := List.nodup_cons.mp nd
    rw [val]
    rcases List.mem_cons.mp h with e | h
    · obtain ⟨rfl, rfl⟩ := Prod.mk.inj e
      rw [if_pos rfl]
    · rw [if_neg (fun e => n1 (by rw [e]; exact List.mem_map.mpr ⟨_, h, rfl⟩))]
      exact ih n2 h
theorem val_put (D : Cs) (t v x : Nat) : val (putD D t v) x = if t = x then v else val D x := by
  induction D with
  | nil => simp [putD, val]
  | cons p r ih =>
    obtain ⟨a, b⟩ := p
    rw [putD]
    by_cases e : a = t
    · subst e
      rw [if_pos rfl, val, val]
      by_cases e2 : a = x <;> simp [e2]
    · rw [if_neg e, val, val, ih]
      by_cases e2 : a = x
      · subst e2
        rw [if_pos rfl, if_neg (fun z => e z.symm), if_pos rfl]
      · rw [if_neg e2, if_neg e2]
theorem keys_put (D : Cs) (t v : Nat) : keys (putD D t v) = if t ∈ keys D then keys D else keys D ++ [t] := by
  induction D with
  | nil => simp [putD, keys]
  | cons p r ih =>
    obtain ⟨a, b⟩ := p
    rw [putD]
    by_cases e : a = t
    · subst e
      simp [keys]
    · rw [if_neg e]
      have ih' : List.map (·.1) (putD r t v) = if t ∈ keys r then keys r else keys r ++ [t] := ih
      unfold keys at ih' ⊢
      rw [List.map_cons, ih', List.map_cons]
      by_cases h : t ∈ List.map (·.1) r
      · rw [if_pos h, if_pos (List.mem_cons_of_mem _ h)]
      · rw [if_neg h, if_neg (fun z => (List.mem_cons.mp z).elim (fun q => e q.symm) h)]
        rfl
theorem nd_put {D : Cs} (h : (keys D).Nodup) (t v : Nat) : (keys (putD D t v)).Nodup := by
  rw [keys_put]
  split
  · exact h
  · rename_i h2
    exact nodup_snoc h h2
theorem mem_put {D : Cs} {t v x : Nat} (h : x ∈ keys (putD D t v)) : x ∈ keys D ∨ x = t := by
  rw [keys_put] at h
  split at h
  · exact .inl h
  · rcases List.mem_append.mp h with h | h
    · exact .inl h
    · exact .inr (List.mem_singleton.mp h)
theorem put_mem (D : Cs) (t v : Nat) : t ∈ keys (putD D t v) := by
  rw [keys_put]
  split
  · assumption
  · exact List.mem_append_right _ (List.mem_singleton.mpr rfl)
/-! ### lists of texts, told by the stands to which they lead -/
def cX (T : Tab) (X : List Word) (s : Nat) : Nat := (X.filter fun w => decide (T.run 0 w = s)).length
def ext (k : Nat) (X : List Word) : List Word := X.flatMap fun w => (List.range k).map fun l => w ++ [l]
theorem ext_texts (k m : Nat) : ext k (texts k m) = texts k (m + 1) := (texts_snoc k m).symm
/-- how many letters below m lead from s to t -/
def deg (T : Tab) (s t : Nat) : Nat → Nat
  | 0 => 0
  | m + 1 => deg T s t m + (if T.st s m = t then 1 else 0)
structure Lev (T : Tab) (k n : Nat) (U : Nat → Bool) (X : List Word) (D : Cs) : Prop where
  nd : (keys D).Nodup
  ok : ∀ s, s ∈ keys D → s < n ∧ U s = true ∧ 0 < val D s
  vl : ∀ s, s < n → U s = true → val D s = cX T X s
def sumD (D : Cs) (f : Nat → Nat) : Nat := (D.map fun p => p.2 * f p.1).sum
theorem cX_cons (T : Tab) (w : Word) (X : List Word) (s : Nat) : cX T (w :: X) s = (if T.run 0 w = s then 1 else 0) + cX T X s := by
  unfold cX
  rw [List.filter_cons]
  by_cases e : T.run 0 w = s <;> simp [e, Nat.add_comm]
theorem cX_append (T : Tab) (X Y : List Word) (s : Nat) : cX T (X ++ Y) s = cX T X s + cX T Y s := by
  unfold cX
  rw [List.filter_append, List.length_append]
theorem cX_map (T : Tab) (w : Word) (t : Nat) : ∀ m, cX T ((List.range m).map fun l => w ++ [l]) t = deg T (T.run 0 w) t m
  | 0 => rfl
  | m + 1 => by
    rw [List.range_succ, List.map_append, cX_append, cX_map T w t m, deg]
    congr 1
    show cX T [w ++ [m]] t = _
    rw [cX_cons, Tab.run_append]
    rfl
/-- the sum over all stands that are told -/
def sumS (S : List Nat) (f : Nat → Nat) : Nat := (S.map f).sum
theorem sumS_add (S : List Nat) (f g : Nat → Nat) : sumS S (fun s => f s + g s) = sumS S f + sumS S g := by
  unfold sumS
  induction S with
  | nil => rfl
  | cons a r ih =>
    simp only [List.map_cons, List.sum_cons, ih]
    omega
theorem sumS_one {S : List Nat} (nd : S.Nodup) {a : Nat} (g : Nat → Nat) : sumS S (fun s => (if a = s then 1 else 0) * g s) = if a ∈ S then g a else 0 := by
  unfold sumS
  induction S with
  | nil => rfl
  | cons b r ih =>
    obtain ⟨n1, n2⟩ := List.nodup_cons.mp nd
    rw [List.map_cons, List.sum_cons, ih n2]
    by_cases e : a = b
    · subst e
      rw [if_pos rfl, if_neg n1, if_pos List.mem_cons_self]
      omega
    · rw [if_neg e]
      by_cases h : a ∈ r
      · rw [if_pos h, if_pos (List.mem_cons_of_mem _ h)]
        omega
      · rw [if_neg h, if_neg (fun z => (List.mem_cons.mp z).elim e h)]
        omega
/-- texts are told apart by the stands to which they lead -/
theorem sumS_cX (T : Tab) {S : List Nat} (nd : S.Nodup) (g : Nat → Nat) : ∀ X : List Word, (∀ w, w ∈ X → g (T.run 0 w) ≠ 0 → T.run 0 w ∈ S) → sumS S (fun s => cX T X s * g s) = (X.map fun w => g (T.run 0 w)).sum
  | [], _ => by
    unfold sumS cX
    induction S with
    | nil => rfl
    | cons a r ih => simpa using ih (List.nodup_cons.mp nd).2
  | w :: X, h => by
    have ih := sumS_cX T nd g X fun v hv => h v (List.mem_cons_of_mem _ hv)
    have e : (fun s => cX T (w :: X) s * g s) = fun s => (if T.run 0 w = s then 1 else 0) * g s + cX T X s * g s := by
      funext s
      rw [cX_cons, Nat.add_mul]
    rw [e, sumS_add, ih, sumS_one nd, List.map_cons, List.sum_cons]
    congr 1
    by_cases h0 : g (T.run 0 w) = 0
    · rw [h0]
      split <;> rfl
    · rw [if_pos (h w List.mem_cons_self h0)]
theorem sumD_keys {D : Cs} (nd : (keys D).Nodup) (f : Nat → Nat) : sumD D f = sumS (keys D) fun s => val D s * f s := by
  unfold sumD sumS
  have e : D.map (fun p => p.2 * f p.1) = (keys D).map fun s => val D s * f s := by
    unfold keys
    rw [List.map_map]
    refine List.map_congr_left fun p hp => ?_
    show p.2 * f p.1 = val D p.1 * f p.1
    rw [val_of_mem nd (show (p.1, p.2) ∈ D from hp)]
  rw [e]
theorem sumS_congr {S : List Nat} {f g : Nat → Nat} (h : ∀ s, s ∈ S → f s = g s) : sumS S f = sumS S g := by
  unfold sumS
  rw [List.map_congr_left h]
section
variable {T : Tab} {k n : Nat} {U : Nat → Bool} {X : List Word} {D : Cs}
theorem Lev.sum (V : Lev T k n U X D) (f : Nat → Nat) (hX : ∀ w, w ∈ X → T.run 0 w < n) (hf : ∀ s, s < n → f s ≠ 0 → U s = true) : sumD D f = (X.map fun w => f (T.run 0 w)).sum := by
  rw [sumD_keys V.nd, ← sumS_cX T V.nd f X]
  · exact sumS_congr fun s hs => by
      obtain ⟨h1, h2, _⟩ := V.ok s hs
      rw [V.vl s h1 h2]
  · intro w hw hz
    have h1 := hX w hw
    have h2 := hf _ h1 hz
    have h3 := V.vl _ h1 h2
    refine Classical.byContradiction fun hn => ?_
    rw [val_none hn] at h3
    have h4 : w ∈ X.filter fun v => decide (T.run 0 v = T.run 0 w) := List.mem_filter.mpr ⟨hw, by simp⟩
    unfold cX at h3
    have := List.length_pos_of_mem h4
    omega
theorem sum_ite (X : List Word) (p : Word → Bool) : (X.map fun w => if p w = true then 1 else 0).sum = (X.filter p).length := by
  induction X with
  | nil => rfl
  | cons a r ih =>
    rw [List.map_cons, List.sum_cons, ih, List.filter_cons]
    cases p a <;> simp [Nat.add_comm]
/-- how many of the texts are words -/
theorem Lev.words (V : Lev T k n U X D) (hX : ∀ w, w ∈ X → T.run 0 w < n) (hU : ∀ s, s < n → T.fin s = true → U s = true) : sumD D (fun s => if T.fin s = true then 1 else 0) = (X.filter (T.acc 0)).length := by
  rw [V.sum _ hX fun s hs h => hU s hs (by by_cases e : T.fin s = true; exact e; simp [e] at h)]
  exact sum_ite X (T.acc 0)
theorem cX_ext (t : Nat) (X : List Word) : cX T (ext k X) t = (X.map fun w => deg T (T.run 0 w) t k).sum := by
  unfold ext
  induction X with
  | nil => rfl
  | cons a r ih => rw [List.flatMap_cons, cX_append, cX_map, ih, List.map_cons, List.sum_cons]
theorem deg_pos {s t : Nat} : ∀ {m : Nat}, deg T s t m ≠ 0 → ∃ l, l < m ∧ T.st s l = t
  | 0, h => absurd rfl h
  | m + 1, h => by
    rw [deg] at h
    by_cases e : T.st s m = t
    · exact ⟨m, by omega, e⟩
    · rw [if_neg e] at h
      obtain ⟨l, hl, q⟩ := deg_pos (m := m) (by omega)
      exact ⟨l, by omega, q⟩
/-- one letter more -/
theorem Lev.next (V : Lev T k n U X D) (O : T.Ok k n) (hX : ∀ w, w ∈ X → T.run 0 w < n) (hU : ∀ s l, s < n → l < k → U (T.st s l) = true → U s = true) {t : Nat} (ht : U t = true) : sumD D (fun s => deg T s t k) = cX T (ext k X) t := by
  rw [cX_ext, V.sum _ hX]
  intro s hs h
  obtain ⟨l, hl, e⟩ := deg_pos h
  exact hU s l hs hl (by rw [e]; exact ht)
theorem ext_run (O : T.Ok k n) (hX : ∀ w, w ∈ X → T.run 0 w < n) : ∀ w, w ∈ ext k X → T.run 0 w < n := by
  intro w hw
  obtain ⟨v, hv, h⟩ := List.mem_flatMap.mp hw
  obtain ⟨l, hl, rfl⟩ := List.mem_map.mp h
  rw [Tab.run_append]
  exact O.st_lt (hX v hv) (List.mem_range.mp hl)
theorem Lev.empty : Lev T k n U [] [] := ⟨List.nodup_nil, fun s h => by simp [keys] at h, fun s _ _ => rfl⟩
theorem Lev.first (O : T.Ok k n) (h : U 0 = true) : Lev T k n U [[]] [(0, 1)] := by
  refine ⟨by simp [keys], fun s hs => ?_, fun s hs _ => ?_⟩
  · have e : s = 0 := by simpa [keys] using hs
    subst e
    exact ⟨O.n1, h, by simp [val]⟩
  · unfold val cX Tab.run
    by_cases e : 0 = s <;> simp [e, val]
theorem Lev.first0 (h : U 0 = false) : Lev T k n U [[]] [] := by
  refine ⟨List.nodup_nil, fun s hs => by simp [keys] at hs, fun s hs hu => ?_⟩
  unfold cX Tab.run
  by_cases e : 0 = s
  · rw [← e, h] at hu
    cases hu
  · simp [e, val]
end
end Own
namespace Own
/-- there is a word with at least m letters -/
def Alive (T : Tab) (k m : Nat) : Prop := ∃ w, Wd k w ∧ w.length = m ∧ Useful T k (T.run 0 w)
theorem Alive.pred {T : Tab} {k m : Nat} (h : Alive T k (m + 1)) : Alive T k m := by
  obtain ⟨w, hw, hl, u, hu, ha⟩ := h
  refine ⟨w.take m, fun x hx => hw x (List.mem_of_mem_take hx), by rw [List.length_take]; omega, w.drop m ++ u, fun x hx => ?_, ?_⟩
  · rcases List.mem_append.mp hx with h | h
    · exact hw x (List.mem_of_mem_drop h)
    · exact hu x h
  · unfold Tab.acc
    rw [← Tab.run_append, ← List.append_assoc, List.take_append_drop, Tab.run_append]
    exact ha
theorem Alive.le {T : Tab} {k m j : Nat} (h : Alive T k m) (hj : j ≤ m) : Alive T k j := by
  induction hj with
  | refl => exact h
  | step _ ih => exact ih h.pred
theorem alive_of_word {T : Tab} {k m : Nat} {w : Word} (hw : Wd k w) (ha : T.acc 0 w = true) (hm : m ≤ w.length) : Alive T k m := by
  refine ⟨w.take m, fun x hx => hw x (List.mem_of_mem_take hx), by rw [List.length_take]; omega, w.drop m, fun x hx => hw x (List.mem_of_mem_drop hx), ?_⟩
  unfold Tab.acc
  rw [← Tab.run_append, List.take_append_drop]
  exact ha
theorem not_alive_W {T : Tab} {k m j : Nat} (h : ¬ Alive T k m) (hj : m ≤ j) : T.W k 0 j = [] := by
  apply List.eq_nil_iff_forall_not_mem.mpr
  intro w hw
  obtain ⟨h1, h2, h3⟩ := mem_W.mp hw
  exact h (alive_of_word h2 h3 (by omega))
section
variable {T : Tab} {k n : Nat} {U : Nat → Bool} {D : Cs}
theorem texts_run (O : T.Ok k n) {m : Nat} : ∀ w, w ∈ texts k m → T.run 0 w < n := fun w hw => O.run_lt O.n1 (mem_texts.mp hw).2
theorem lev_alive (O : T.Ok k n) (hU : ∀ s, s < n → (U s = true ↔ Useful T k s)) {m : Nat} (V : Lev T k n U (texts k m) D) : D = [] ↔ ¬ Alive T k m := by
  constructor
  · rintro rfl ⟨w, hw, hl, hu⟩
    have hs := O.run_lt O.n1 hw
    have h := V.vl _ hs ((hU _ hs).mpr hu)
    have h4 : w ∈ (texts k m).filter fun v => decide (T.run 0 v = T.run 0 w) := List.mem_filter.mpr ⟨mem_texts.mpr ⟨hl, hw⟩, by simp⟩
    unfold cX at h
    have := List.length_pos_of_mem h4
    rw [← h] at this
    exact absurd this (by simp [val])
  · intro h
    cases D with
    | nil => rfl
    | cons p r =>
      exfalso
      obtain ⟨h1, h2, h3⟩ := V.ok p.1 (by unfold keys; rw [List.map_cons]; exact List.mem_cons_self)
      rw [V.vl _ h1 h2] at h3
      obtain ⟨w, hw⟩ := List.exists_mem_of_length_pos h3
      obtain ⟨a, b⟩ := List.mem_filter.mp hw
      obtain ⟨c, d⟩ := mem_texts.mp a
      have e : T.run 0 w = p.1 := by simpa using b
      exact h ⟨w, d, c, by rw [e]; exact (hU _ h1).mp h2⟩
/-- how many words there are below a length -/
def sumW (T : Tab) (k : Nat) : Nat → Nat
  | 0 => 0
  | m + 1 => sumW T k m + (T.W k 0 m).length
theorem WB_length (T : Tab) (k : Nat) : ∀ m, (T.WB k m).length = sumW T k m
  | 0 => rfl
  | m + 1 => by rw [Tab.WB, List.length_append, WB_length T k m, sumW]
end
end Own
namespace Own
/-- the texts of i letters that are before the first i letters of u -/
def Zs (k : Nat) (u : Word) : Nat → List Word
  | 0 => []
  | i + 1 => ext k (Zs k u i) ++ (List.range (u.getD i 0)).map fun l => u.take i ++ [l]
def cntP (X : List Word) (p : Word → Bool) : Nat := (X.filter p).length
theorem cntP_append (X Y : List Word) (p : Word → Bool) : cntP (X ++ Y) p = cntP X p + cntP Y p := by
  unfold cntP
  rw [List.filter_append, List.length_append]
theorem cntP_ext (k : Nat) (X : List Word) (p : Word → Bool) : cntP (ext k X) p = (X.map fun w => cntP ((List.range k).map fun l => w ++ [l]) p).sum := by
  unfold ext
  induction X with
  | nil => rfl
  | cons a r ih => rw [List.flatMap_cons, cntP_append, ih, List.map_cons, List.sum_cons]
theorem lex_snoc : ∀ {v u : Word} {l a : Nat}, v.length = u.length → (lexLt (v ++ [l]) (u ++ [a]) ↔ lexLt v u ∨ (v = u ∧ l < a))
  | [], [], l, a, _ => by simp [lexLt]
  | [], _ :: _, _, _, h => by simp at h
  | _ :: _, [], _, _, h => by simp at h
  | x :: v, y :: u, l, a, h => by
    have ih := lex_snoc (v := v) (u := u) (l := l) (a := a) (by simpa using h)
    show (x < y ∨ x = y ∧ lexLt (v ++ [l]) (u ++ [a])) ↔ (x < y ∨ x = y ∧ lexLt v u) ∨ (x :: v = y :: u ∧ l < a)
    rw [ih]
    constructor
    · rintro (h | ⟨h1, h | ⟨h2, h3⟩⟩)
      · exact .inl (.inl h)
      · exact .inl (.inr ⟨h1, h⟩)
      · exact .inr ⟨by rw [h1, h2], h3⟩
    · rintro ((h | ⟨h1, h⟩) | ⟨h1, h3⟩)
      · exact .inl h
      · exact .inr ⟨h1, .inl h⟩
      · obtain ⟨e1, e2⟩ := List.cons.inj h1
        exact .inr ⟨e1, .inr ⟨e2, h3⟩⟩
theorem cnt_lt (p : Nat → Bool) (a : Nat) : ∀ k, a ≤ k → ((List.range k).filter fun l => p l && decide (l < a)).length = ((List.range a).filter p).length
  | 0, h => by
    have e : a = 0 := by omega
    subst e
    rfl
  | k + 1, h => by
    by_cases e : a = k + 1
    · subst e
      congr 1
      apply List.filter_congr
      intro x hx
      simp [List.mem_range.mp hx]
    · rw [List.range_succ, List.filter_append, List.length_append, cnt_lt p a k (by omega)]
      simp
      omega
theorem sum_if_one {X : List Word} (nd : X.Nodup) {u : Word} (hu : u ∈ X) (g : Word → Nat) (c : Nat) (q : Word → Bool) (hq : q u = false) : (X.map fun w => if w = u then c else if q w = true then g w else 0).sum = c + ((X.filter q).map g).sum := by
  induction X with
  | nil => simp at hu
  | cons a r ih =>
    obtain ⟨n1, n2⟩ := List.nodup_cons.mp nd
    rw [List.map_cons, List.sum_cons]
    by_cases e : a = u
    · subst e
      have z : (r.map fun w => if w = a then c else if q w = true then g w else 0) = r.map fun w => if q w = true then g w else 0 := by
        refine List.map_congr_left fun w hw => ?_
        have hne : w ≠ a := fun z => n1 (by rw [← z]; exact hw)
        rw [if_neg hne]
      rw [if_pos rfl, z, List.filter_cons, if_neg (by rw [hq]; simp)]
      congr 1
      clear ih n1 n2 nd hu z
      induction r with
      | nil => rfl
      | cons b r ih =>
        rw [List.map_cons, List.sum_cons, ih, List.filter_cons]
        by_cases h : q b = true
        · rw [if_pos h, if_pos h, List.map_cons, List.sum_cons]
        · rw [if_neg h, if_neg h, Nat.zero_add]
    · have hur : u ∈ r := (List.mem_cons.mp hu).resolve_left fun z => e z.symm
      rw [if_neg e, ih n2 hur, List.filter_cons]
      by_cases h : q a = true
      · rw [if_pos h, if_pos h, List.map_cons, List.sum_cons]
        omega
      · rw [if_neg h, if_neg h, Nat.zero_add]
theorem texts_nodup (k m : Nat) : (texts k m).Nodup := by
  refine (texts_sorted k m).imp fun {a b} h e => ?_
  subst e
  exact lex_irrefl _ h
theorem cnt_ext_map (w : Word) (p : Word → Bool) (m : Nat) : cntP ((List.range m).map fun l => w ++ [l]) p = ((List.range m).filter fun l => p (w ++ [l])).length := by
  unfold cntP
  rw [List.filter_map, List.length_map]
  rfl
/-- as many of them as are before u have a property -/
theorem Zs_cnt {k : Nat} {u : Word} (hu : Wd k u) (p : Word → Bool) : ∀ i, i ≤ u.length → ∀ p : Word → Bool, cntP (Zs k u i) p = cntP (texts k i) fun v => p v && lexLtB v (u.take i)
  | 0, _, p => by
    unfold Zs texts cntP
    simp [lexLtB]
  | i + 1, hi, p => by
    have hi' : i < u.length := by omega
    have ea : u.take (i + 1) = u.take i ++ [u.getD i 0] := by
      rw [List.take_add_one, List.getD_eq_getElem?_getD, List.getElem?_eq_getElem hi']
      rfl
    have hak : u.getD i 0 < k := by
      rw [List.getD_eq_getElem?_getD, List.getElem?_eq_getElem hi', Option.getD_some]
      exact hu _ (List.getElem_mem hi')
    have htk : (u.take i).length = i := by rw [List.length_take]; omega
    have hmem : u.take i ∈ texts k i := mem_texts.mpr ⟨htk, fun x hx => hu x (List.mem_of_mem_take hx)⟩
    rw [Zs, cntP_append, cntP_ext, cnt_ext_map, ← ext_texts, cntP_ext]
    have e1 : (texts k i).map (fun w => cntP ((List.range k).map fun l => w ++ [l]) fun v => p v && lexLtB v (u.take (i + 1))) =
        (texts k i).map fun w => if w = u.take i then ((List.range (u.getD i 0)).filter fun l => p (u.take i ++ [l])).length else if lexLtB w (u.take i) = true then cntP ((List.range k).map fun l => w ++ [l]) p else 0 := by
      refine List.map_congr_left fun w hw => ?_
      have hwl : w.length = (u.take i).length := by rw [(mem_texts.mp hw).1, htk]
      rw [cnt_ext_map, ea]
      by_cases h1 : w = u.take i
      · rw [if_pos h1, h1, ← cnt_lt (fun l => p (u.take i ++ [l])) (u.getD i 0) k (by omega)]
        congr 1
        apply List.filter_congr
        intro l _
        congr 1
        rw [Bool.eq_iff_iff, lexLtB_iff, lex_snoc rfl]
        simp [lex_irrefl]
      · rw [if_neg h1]
        by_cases h2 : lexLtB w (u.take i) = true
        · rw [if_pos h2, cnt_ext_map]
          congr 1
          apply List.filter_congr
          intro l _
          have : lexLtB (w ++ [l]) (u.take i ++ [u.getD i 0]) = true := (lexLtB_iff _ _).mpr ((lex_snoc hwl).mpr (.inl ((lexLtB_iff _ _).mp h2)))
          rw [this, Bool.and_true]
        · rw [if_neg h2]
          apply List.length_eq_zero_iff.mpr
          apply List.filter_eq_nil_iff.mpr
          intro l _ hc
          rw [Bool.and_eq_true, lexLtB_iff, lex_snoc hwl] at hc
          rcases hc.2 with hc | ⟨hc, _⟩
          · exact h2 ((lexLtB_iff _ _).mpr hc)
          · exact h1 hc
    rw [e1, sum_if_one (texts_nodup k i) hmem _ _ _ (by
      cases h : lexLtB (u.take i) (u.take i) with
      | false => rfl
      | true => exact absurd ((lexLtB_iff _ _).mp h) (lex_irrefl _))]
    rw [Nat.add_comm]
    congr 1
    -- the sum over the lesser ones
    have key : ∀ X : List Word, (X.map fun w => cntP ((List.range k).map fun l => w ++ [l]) p).sum = cntP (ext k X) p := fun X => (cntP_ext k X p).symm
    rw [key, key]
    have gen : ∀ (X Y : List Word), (∀ q : Word → Bool, cntP X q = cntP Y q) → cntP (ext k X) p = cntP (ext k Y) p := by
      intro X Y h
      rw [cntP_ext, cntP_ext]
      have bnd : ∀ w, cntP ((List.range k).map fun l => w ++ [l]) p ≤ k := by
        intro w
        rw [cnt_ext_map]
        have := List.length_filter_le (fun l => p (w ++ [l])) (List.range k)
        rwa [List.length_range] at this
      have tel : ∀ (Z : List Word) (g : Word → Nat), (∀ w, g w ≤ k) → (Z.map g).sum = ((List.range k).map fun c => cntP Z fun w => decide (c < g w)).sum := by
        intro Z g hg
        induction Z with
        | nil =>
          show 0 = ((List.range k).map fun _ => 0).sum
          rw [List.map_const', List.sum_replicate_nat, Nat.mul_zero]
        | cons a r ih =>
          rw [List.map_cons, List.sum_cons, ih]
          have e3 : ((List.range k).map fun c => cntP (a :: r) fun w => decide (c < g w)) = (List.range k).map fun c => (if c < g a then 1 else 0) + cntP r fun w => decide (c < g w) := by
            refine List.map_congr_left fun c _ => ?_
            unfold cntP
            rw [List.filter_cons]
            by_cases h : c < g a <;> simp [h, Nat.add_comm]
          rw [e3]
          have e4 : ∀ (f h : Nat → Nat) (m : Nat), ((List.range m).map fun c => f c + h c).sum = ((List.range m).map f).sum + ((List.range m).map h).sum := by
            intro f h m
            induction m with
            | zero => rfl
            | succ m ih =>
              rw [List.range_succ, List.map_append, List.map_append, List.map_append, List.sum_append, List.sum_append, List.sum_append, ih]
              simp
              omega
          rw [e4]
          congr 1
          have e5 : ∀ (m b : Nat), ((List.range m).map fun c => if c < b then 1 else 0).sum = min b m := by
            intro m b
            induction m with
            | zero => simp
            | succ m ih =>
              rw [List.range_succ, List.map_append, List.sum_append, ih]
              simp
              split <;> omega
          rw [e5, Nat.min_eq_left (hg a)]
      rw [tel X _ bnd, tel Y _ bnd]
      congr 1
      exact List.map_congr_left fun c _ => h _
    refine gen _ _ fun q => ?_
    rw [Zs_cnt hu p i (by omega) q]
    unfold cntP
    rw [List.filter_filter]
/-- the index of a word -/
def rank (T : Tab) (k : Nat) (u : Word) : Nat := sumW T k u.length + ((T.W k 0 u.length).filter (lexLtB · u)).length
theorem Zs_rank {T : Tab} {k : Nat} {u : Word} (hu : Wd k u) : ((Zs k u u.length).filter (T.acc 0)).length = ((T.W k 0 u.length).filter (lexLtB · u)).length := by
  have h := Zs_cnt hu (T.acc 0) u.length (Nat.le_refl _) (T.acc 0)
  unfold cntP at h
  rw [h, List.take_length]
  unfold Tab.W
  rw [List.filter_filter]
  congr 1
  apply List.filter_congr
  intro x _
  rw [Bool.and_comm]
theorem rank_of {T : Tab} {k N lft : Nat} {u : Word} (h : (T.W k 0 N)[lft]? = some u) : rank T k u = sumW T k N + lft := by
  have hm := mem_W.mp (List.mem_of_getElem? h)
  unfold rank
  rw [hm.1, place_of (W_sorted T k 0 N) h]
end Own
namespace Own
open PySem PySem.Spec PyProof.Rows L2
/-! texts of letters -/
/-- the text of a word -/
def tx (w : Word) : Str := ⟨(w.map (· + 97)).toArray⟩
def sg (l : Nat) : Str := ⟨#[l + 97]⟩
theorem abc_eq : ("abc" : Str) = tx [0, 1, 2] := by decide +kernel
theorem empty_eq : ("" : Str) = tx [] := by decide +kernel
theorem sg_eq (l : Nat) : sg l = tx [l] := rfl
theorem tx_cps (w : Word) : (tx w).cps.toList = w.map (· + 97) := rfl
theorem tx_length (w : Word) : (tx w).length = w.length := by
  show (w.map (· + 97)).toArray.size = w.length
  simp
theorem tx_size (w : Word) : (tx w).cps.size = w.length := tx_length w
theorem tx_at (w : Word) (i : Nat) : (tx w).cps[i]? = w[i]?.map (· + 97) := by
  show (w.map (· + 97)).toArray[i]? = _
  simp
theorem tx_inj {u v : Word} (h : tx u = tx v) : u = v := by
  have q : u.map (· + 97) = v.map (· + 97) := by rw [← tx_cps u, ← tx_cps v, h]
  exact (List.map_inj_right (fun a b e => by simpa using e)).mp q
theorem tx_append (u v : Word) : tx u ++ tx v = tx (u ++ v) := by
  show (⟨(u.map (· + 97)).toArray ++ (v.map (· + 97)).toArray⟩ : Str) = ⟨((u ++ v).map (· + 97)).toArray⟩
  simp
theorem cutS_tx (w : Word) (lo hi : Option Int) : cutS (tx w) lo hi = tx ((w.drop (HT.sIx w.length 0 lo)).take (HT.sIx w.length w.length hi - HT.sIx w.length 0 lo)) := by
  unfold cutS
  rw [tx_length, tx_cps]
  show _ = (⟨(List.map _ _).toArray⟩ : Str)
  simp [List.map_take, List.map_drop]
theorem cut_abc (k : Nat) (h : k ≤ 3) : cutS (tx [0, 1, 2]) none (some (k : Int)) = tx (List.range k) := by
  rw [cutS_tx, HT.sIx_none, HT.sIx_nat]
  match k, h with
  | 0, _ => rfl
  | 1, _ => rfl
  | 2, _ => rfl
  | 3, _ => rfl
theorem takeWhile_all {l : List Nat} {p : Nat → Bool} (h : ∀ x, x ∈ l → p x = true) : l.takeWhile p = l := by
  induction l with
  | nil => rfl
  | cons a r ih =>
    rw [List.takeWhile_cons, if_pos (h a List.mem_cons_self), ih fun x hx => h x (List.mem_cons_of_mem _ hx)]
theorem strip_all {w : Word} {k : Nat} (h : Wd k w) : Txt.stripChars (tx w) (tx (List.range k)) = tx [] := by
  have g : ∀ x, x ∈ (tx w).cps.toList → (tx (List.range k)).cps.contains x = true := by
    intro x hx
    rw [tx_cps] at hx
    obtain ⟨l, hl, rfl⟩ := List.mem_map.mp hx
    rw [Array.contains_iff_mem, ← Array.mem_toList_iff, tx_cps]
    exact List.mem_map.mpr ⟨l, List.mem_range.mpr (h l hl), rfl⟩
  have lo : stripLo (tx (List.range k)).cps.contains true (tx w) = w.length := by
    unfold stripLo
    rw [if_pos rfl, takeWhile_all g, tx_cps, List.length_map]
  unfold Txt.stripChars Txt.stripBy
  have hi : stripHi (tx (List.range k)).cps.contains true (tx w) w.length = w.length := by
    unfold stripHi
    rw [if_pos rfl, tx_length]
    have z : (tx w).cps.toList.drop w.length = [] := by
      apply List.drop_eq_nil_of_le
      rw [tx_cps, List.length_map]
      exact Nat.le_refl _
    rw [z]
    rfl
  by_cases hs : stripSame (tx (List.range k)).cps.contains true true (tx w) = true
  · rw [if_pos hs]
    unfold stripSame at hs
    rw [Bool.and_eq_true, lo] at hs
    have e : w.length = 0 := by simpa using hs.1
    rw [List.length_eq_zero_iff.mp e]
  · rw [if_neg hs]
    unfold stripped
    rw [lo, hi]
    show (⟨(tx w).cps.extract w.length w.length⟩ : Str) = ⟨#[]⟩
    have z : (tx w).cps.extract w.length w.length = #[] := by
      apply Array.eq_empty_of_size_eq_zero
      rw [Array.size_extract]
      omega
    rw [z]
theorem ix_abc (l : Nat) (h : l < 3) : Txt.index0 (tx [0, 1, 2]) (sg l) = some l := by
  match l, h with
  | 0, _ => decide +kernel
  | 1, _ => decide +kernel
  | 2, _ => decide +kernel
theorem at_abc (l : Nat) (h : l < 3) : (tx [0, 1, 2]).cps[l]? = some (l + 97) := by
  match l, h with
  | 0, _ => rfl
  | 1, _ => rfl
  | 2, _ => rfl
theorem join_tx (ws : List Word) : Txt.join (tx []) (ws.map tx) = tx ws.flatten := by
  rw [TL.join_eq]
  induction ws with
  | nil => rfl
  | cons u r ih =>
    cases r with
    | nil =>
      show tx u = tx (u ++ [])
      rw [List.append_nil]
    | cons v r =>
      show tx u ++ tx [] ++ Str.join (tx []) ((v :: r).map tx) = _
      rw [ih, tx_append, tx_append, List.append_nil]
      rfl
end Own
namespace Own
open PySem PySem.Spec PyProof.Rows L2
/-! helpers over the layer -/
def nV (n : Nat) : V := .int (n : Nat)
section
variable {J : It} {n : Nat} {G : Hp → Prop} {Y : Nat → Hp → V → Hp → Prop}
/-- what the comprehension's reading asks, answered for items that are told by f and kept by p -/
theorem lc_fm (w : Walk J n G Y) {g : TG} {tt : TT} {te : TE} {vs : List Nat} {σ : L2.St} {H1 : Hp} {D : Addr} {Qd : Hp → Prop} (nD : H1 D = none) (f : Nat → V) (p : Nat → Bool) (hn : n < sizeLine)
    (hG : ∀ H, Same H1 H → G H)
    (hs : ∀ i x H H', i < n → Same H1 H → Y i H x H' → ∀ (R : VK) (R0 : Hp → Prop), (p i = true → ∀ H4, Same H H4 → R (f i) H4) → (p i = false → ∀ H4, Same H H4 → R0 H4) →
      g x (wipe σ vs) H' fun σ2 H2 => wipe σ2 vs = wipe σ vs ∧ tt σ2 H2 fun b H3 => if b = true then te σ2 H3 R else R0 H3)
    (hd : ∀ H, Same H1 H → H D = some (.lst (((List.range n).filter p).map f)) → Qd H) :
    ∃ W : Nat → Nat → Hp → Prop, (∃ m, W 0 m (upd H1 D (.lst []))) ∧ ∀ i m H, W i m H →
      (J.stop i H ∧ Qd H) ∨ (J.go i H ∧ ∃ Nx : Hp → Prop, (∀ H', Nx H' → ∃ m', m' < m ∧ W (i + 1) m' H') ∧ ∀ x H', J.yld i H x H' → g x (wipe σ vs) H' fun σ2 H2 => wipe σ2 vs = wipe σ vs ∧ tt σ2 H2 fun b H3 =>
        if b = true then te σ2 H3 fun y H4 => ∃ acc, H4 D = some (.lst acc) ∧ acc.length < sizeLine ∧ Nx (upd H4 D (.lst (acc ++ [y]))) else Nx H3) := by
  refine lc_it w (fun i H => Same H1 H ∧ H D = some (.lst (((List.range i).filter p).map f))) ⟨same_new nD _, upd_same⟩ (fun i H _ q => hG H q.1) (fun i x H H' hi q y => ?_) (fun H q => hd H q.1 q.2)
  obtain ⟨q1, q2⟩ := q
  refine hs i x H H' hi q1 y _ _ (fun e H4 s => ?_) (fun e H4 s => ?_)
  · refine ⟨_, s _ _ q2, ?_, fun b o hb => ?_, ?_⟩
    · rw [List.length_map]
      have h1 := List.length_filter_le p (List.range i)
      rw [List.length_range] at h1
      omega
    · rw [upd_ne (ne_of_none hb nD)]
      exact s _ _ (q1 _ _ hb)
    · rw [upd_same, List.range_succ, List.filter_append, List.map_append]
      simp [e]
  · refine ⟨q1.trans s, ?_⟩
    rw [s _ _ q2, List.range_succ, List.filter_append, List.map_append]
    simp [e]
/-- .. without a test -/
theorem lc_map (w : Walk J n G Y) {g : TG} {te : TE} {vs : List Nat} {σ : L2.St} {H1 : Hp} {D : Addr} {Qd : Hp → Prop} (nD : H1 D = none) (f : Nat → V) (hn : n < sizeLine)
    (hG : ∀ H, Same H1 H → G H)
    (hs : ∀ i x H H', i < n → Same H1 H → Y i H x H' → ∀ (R : VK), (∀ H4, Same H H4 → R (f i) H4) → g x (wipe σ vs) H' fun σ2 H2 => wipe σ2 vs = wipe σ vs ∧ te σ2 H2 R)
    (hd : ∀ H, Same H1 H → H D = some (.lst ((List.range n).map f)) → Qd H) :
    ∃ W : Nat → Nat → Hp → Prop, (∃ m, W 0 m (upd H1 D (.lst []))) ∧ ∀ i m H, W i m H →
      (J.stop i H ∧ Qd H) ∨ (J.go i H ∧ ∃ Nx : Hp → Prop, (∀ H', Nx H' → ∃ m', m' < m ∧ W (i + 1) m' H') ∧ ∀ x H', J.yld i H x H' → g x (wipe σ vs) H' fun σ2 H2 => wipe σ2 vs = wipe σ vs ∧ tYes σ2 H2 fun b H3 =>
        if b = true then te σ2 H3 fun y H4 => ∃ acc, H4 D = some (.lst acc) ∧ acc.length < sizeLine ∧ Nx (upd H4 D (.lst (acc ++ [y]))) else Nx H3) := by
  refine lc_it w (fun i H => Same H1 H ∧ H D = some (.lst ((List.range i).map f))) ⟨same_new nD _, upd_same⟩ (fun i H _ q => hG H q.1) (fun i x H H' hi q y => ?_) (fun H q => hd H q.1 q.2)
  obtain ⟨q1, q2⟩ := q
  have z := hs i x H H' hi q1 y (fun y H4 => ∃ acc, H4 D = some (.lst acc) ∧ acc.length < sizeLine ∧ (Same H1 (upd H4 D (.lst (acc ++ [y]))) ∧ (upd H4 D (.lst (acc ++ [y]))) D = some (.lst ((List.range (i + 1)).map f)))) fun H4 s => by
    refine ⟨_, s _ _ q2, ?_, fun b o hb => ?_, ?_⟩
    · rw [List.length_map, List.length_range]
      omega
    · rw [upd_ne (ne_of_none hb nD)]
      exact s _ _ (q1 _ _ hb)
    · rw [upd_same, List.range_succ, List.map_append]
      rfl
  exact z
end
theorem map_range_get {α : Type} (xs : List α) (f : Nat → V) (h : α → V) (e : ∀ i x, xs[i]? = some x → f i = h x) : (List.range xs.length).map f = xs.map h := by
  apply List.ext_getElem?
  intro i
  rw [List.getElem?_map, List.getElem?_map]
  by_cases hi : i < xs.length
  · rw [List.getElem?_range hi, List.getElem?_eq_getElem hi]
    simp only [Option.map_some]
    rw [e i _ (List.getElem?_eq_getElem hi)]
  · rw [List.getElem?_eq_none (by rw [List.length_range]; omega), List.getElem?_eq_none (by omega)]
    rfl
/-! ### tables in the heap -/
def RowsAt (K : PySem.W.Frag) (H : Hp) (r : Addr) (rows : List (List Nat)) : Prop := ∃ as : List Addr, SqT K H r (as.map V.ref) ∧ as.length = rows.length ∧ ∀ (i : Nat) (a : Addr) (row : List Nat), as[i]? = some a → rows[i]? = some row → SqT K H a (row.map nV)
structure TabAt (K : PySem.W.Frag) (H : Hp) (t r e : Addr) (T : Tab) : Prop where
  top : SqT K H t [.ref r, .ref e]
  rows : RowsAt K H r T.rows
  ends : SqT K H e (T.ends.map V.bl)
section
variable {K : PySem.W.Frag} {H H' : Hp} {t r e : Addr} {T : Tab} {rows : List (List Nat)}
theorem RowsAt.same (h : RowsAt K H r rows) (s : Same H H') : RowsAt K H' r rows := by
  obtain ⟨as, h1, h2, h3⟩ := h
  exact ⟨as, Same.tup s h1, h2, fun i a row ha hr => Same.tup s (h3 i a row ha hr)⟩
theorem TabAt.same (h : TabAt K H t r e T) (s : Same H H') : TabAt K H' t r e T := ⟨Same.tup s h.top, h.rows.same s, Same.tup s h.ends⟩
theorem RowsAt.get (h : RowsAt K H r rows) {s : Nat} (hs : s < rows.length) : ∃ a xs, SqT K H r xs ∧ xs.length = rows.length ∧ atI xs (s : Nat) = some (.ref a) ∧ xs[s]? = some (.ref a) ∧ SqT K H a ((rows.getD s []).map nV) := by
  obtain ⟨as, h1, h2, h3⟩ := h
  have hs' : s < as.length := by omega
  have e1 : (as.map V.ref)[s]? = some (.ref as[s]) := by
    rw [List.getElem?_map, List.getElem?_eq_getElem hs']
    rfl
  refine ⟨as[s], as.map V.ref, h1, by rw [List.length_map, h2], atI_nat e1, e1, ?_⟩
  have e2 : rows.getD s [] = rows[s] := by
    rw [List.getD_eq_getElem?_getD, List.getElem?_eq_getElem hs, Option.getD_some]
  rw [e2]
  exact h3 s _ _ (List.getElem?_eq_getElem hs') (List.getElem?_eq_getElem hs)
theorem RowsAt.len (h : RowsAt K H r rows) : ∃ xs, SqT K H r xs ∧ xs.length = rows.length := by
  obtain ⟨as, h1, h2, _⟩ := h
  exact ⟨_, h1, by rw [List.length_map, h2]⟩
end
section
variable {T : Tab} {k n : Nat}
theorem Tab.Ok.rowlen (O : T.Ok k n) {s : Nat} (hs : s < n) : (T.rows.getD s []).length = k := by
  have h1 : s < T.rows.length := by
    rw [O.rl]
    exact hs
  rw [List.getD_eq_getElem?_getD, List.getElem?_eq_getElem h1, Option.getD_some]
  exact (O.row _ (List.getElem_mem h1)).1
theorem Tab.Ok.at_st (O : T.Ok k n) {s l : Nat} (hs : s < n) (hl : l < k) : atI ((T.rows.getD s []).map nV) (l : Nat) = some (.int (T.st s l : Nat)) := by
  have h2 : l < (T.rows.getD s []).length := by
    rw [O.rowlen hs]
    exact hl
  refine atI_nat ?_
  rw [List.getElem?_map, List.getElem?_eq_getElem h2]
  unfold Tab.st
  rw [List.getD_eq_getElem?_getD (l := T.rows.getD s []), List.getElem?_eq_getElem h2]
  rfl
theorem Tab.Ok.at_fin (O : T.Ok k n) {s : Nat} (hs : s < n) : atI (T.ends.map V.bl) (s : Nat) = some (.bl (T.fin s)) := by
  have h2 : s < T.ends.length := by
    rw [O.el]
    exact hs
  refine atI_nat ?_
  rw [List.getElem?_map, List.getElem?_eq_getElem h2]
  unfold Tab.fin
  rw [List.getD_eq_getElem?_getD, List.getElem?_eq_getElem h2]
  rfl
end
end Own
namespace Own
open PySem PySem.Spec PyProof.Rows L2
section
variable {X : Cx} {a b v e : Expr} {es : List Expr} {ta tb tv to : TE} {t : TA} {pos pos' : Pos} {tg : Expr} (K : PySem.W.Frag)
theorem p_ixl (ha : PE X a ta) (hb : PE X b tb) (hs : PlainIx b := by exact fun _ _ => rfl) (hK : X.K = K := by rfl) : PE X (.Subscript a b pos) (tOp (rIxL K) ta tb) := by
  subst hK
  exact pe_ix ix_list ha hb hs
theorem p_ixt (ha : PE X a ta) (hb : PE X b tb) (hs : PlainIx b := by exact fun _ _ => rfl) (hK : X.K = K := by rfl) : PE X (.Subscript a b pos) (tOp (rIxT K) ta tb) := by
  subst hK
  exact pe_ix ix_tup ha hb hs
theorem t_in (ha : PE X a ta) (hb : PE X b tb) (h1 : behindInMarks .In b = false := by rfl) (hK : X.K = K := by rfl) : PT X (.Compare a [.In] [b] pos) (tTest (tOp (rIn K false) ta tb)) := by
  subst hK
  exact pt_cmpR op_in_seq ha hb h1
theorem t_nin (ha : PE X a ta) (hb : PE X b tb) (h1 : behindInMarks .NotIn b = false := by rfl) (hK : X.K = K := by rfl) : PT X (.Compare a [.NotIn] [b] pos) (tTest (tOp (rIn K true) ta tb)) := by
  subst hK
  exact pt_cmpR op_notIn_seq ha hb h1
theorem e_in (ha : PE X a ta) (hb : PE X b tb) (h1 : behindInMarks .In b = false := by rfl) (hK : X.K = K := by rfl) : PE X (.Compare a [.In] [b] pos) (tOp (rIn K false) ta tb) := by
  subst hK
  exact pe_cmpR op_in_seq ha hb h1
theorem t_inD (hu : X.A.units + 65 < cLine) (ha : PE X a ta) (hb : PE X b tb) (h1 : behindInMarks .In b = false := by rfl) (hK : X.K = K := by rfl) : PT X (.Compare a [.In] [b] pos) (tTest (tOp (rInD K) ta tb)) := by
  subst hK
  exact pt_cmpR (op_inD hu) ha hb h1
theorem t_ninD (hu : X.A.units + 65 < cLine) (ha : PE X a ta) (hb : PE X b tb) (h1 : behindInMarks .NotIn b = false := by rfl) (hK : X.K = K := by rfl) : PT X (.Compare a [.NotIn] [b] pos) (tTest (tOp (rNotInD K) ta tb)) := by
  subst hK
  exact pt_cmpR (op_notInD hu) ha hb h1
theorem p_list (hl : PE X a ta) (hK : X.K = K := by rfl) : PI X tg a (iList K ta) := by
  subst hK
  exact pi_list hl
theorem p_tup (hl : PE X a ta) (hK : X.K = K := by rfl) : PI X tg a (iTup K ta) := by
  subst hK
  exact pi_tup hl
/-- len of a list or tuple -/
def rLenS (K : PySem.W.Frag) : List V → Hp → VK → Prop := fun xs H Q => ∃ p ys, xs = [.ref p] ∧ (SqL K H p ys ∨ SqT K H p ys) ∧ Q (.int ys.length) H
theorem c_len (hK : X.K = K := by rfl) : CallR X (.builtin "len") (rLenS K) := by
  subst hK
  exact call_len_seq
theorem c_sum (hc : X.calm = true := by rfl) (hK : X.K = K := by rfl) : CallR X (.builtin "sum") (rSum K) := by
  subst hK
  exact cr_sum hc
theorem c_all (hc : X.calm = true := by rfl) (hK : X.K = K := by rfl) : CallR X (.builtin "all") (rAll K) := by
  subst hK
  exact cr_all hc
theorem c_any (hc : X.calm = true := by rfl) (hK : X.K = K := by rfl) : CallR X (.builtin "any") (rAny K) := by
  subst hK
  exact cr_any hc
theorem c_max (hc : X.calm = true := by rfl) (hK : X.K = K := by rfl) : CallR X (.builtin "max") (rMax K) := by
  subst hK
  exact cr_max hc
theorem c_min (hc : X.calm = true := by rfl) (hK : X.K = K := by rfl) : CallR X (.builtin "min") (rMin K) := by
  subst hK
  exact cr_min hc
theorem c_isi (hK : X.K = K := by rfl) : CallR X (.builtin "isinstance") (rIsi K) := by
  subst hK
  exact call_isi
/-- list(x), a new list -/
def rListS (K : PySem.W.Frag) : List V → Hp → VK → Prop := fun xs H Q => ∃ p ys, xs = [.ref p] ∧ (SqL K H p ys ∨ SqT K H p ys) ∧ ∀ l, H l = none → Q (.ref l) (upd H l (.lst ys))
theorem c_list (hK : X.K = K := by rfl) : CallR X (.type "list") (rListS K) := by
  subst hK
  exact call_list_of
/-- tuple(l) of a list: a new tuple -/
def rTupL (K : PySem.W.Frag) : List V → Hp → VK → Prop := fun xs H Q => ∃ p ys, xs = [.ref p] ∧ SqL K H p ys ∧ ∀ l, H l = none → Q (.ref l) (upd H l (.tup ys))
theorem c_tup (hK : X.K = K := by rfl) : CallR X (.type "tuple") (rTupL K) := by
  subst hK
  intro pins s σ H xs us Q I r h
  obtain ⟨p, ys, e, hs, q⟩ := h
  exact call_tuple_of pins s σ H xs us Q I r ⟨p, ys, e, .inl ⟨hs, q⟩⟩
theorem c_set (hc : X.calm = true := by rfl) (hK : X.K = K := by rfl) : CallR X (.type "set") (rSet1 X.w K) := by
  subst hK
  exact call_set1 hc
/-- a test of any value -/
theorem p_tru (hl : PE X a ta) (he : ∀ whole, isTrue a X.env whole = (do let v ← whole; standAt a.pos; holding [v] (truthy v)) := by intro _; rfl) (hK : X.K = K := by rfl) : PT X a (fun σ H Q => ta σ H fun x H' => ∃ k, TruV K x H' k ∧ Q k H') := by
  subst hK
  exact pt_truth hl he
/-- xs.append(e) -/
theorem p_app {apos cpos : Pos} (ho : PE X a to) (ha : PA X [e] t) (hbase : attributeBase a "append" X.env (eval a X.env) = eval a X.env := by rfl)
    (hfew : ((backTo cpos (starEach [e] X.env)).all (fun x => !x.1) && (backToKw cpos (keywordEach [] X.env)).all (fun x => x.1.isSome) && decide (([e] : List Expr).length + ([] : List Keyword).length + (if ([] : List Keyword).isEmpty then 0 else 1) < 30)) = true := by rfl)
    (hline : (apos.endLine == cpos.line) = true := by rfl) (hs : starEach [e] X.env = (false, eval e X.env) :: starEach [] X.env := by rfl) (hplain : (backTo cpos (starEach [] X.env)).any (·.1) = false := by rfl) (hK : X.K = K := by rfl) :
    PE X (.Call (.Attribute a "append" apos) [e] [] cpos) (tBM K "list" rAppend to t) := by
  subst hK
  exact pe_bm PySem.F.plainAttrs_list PySem.F.slot_list_append PySem.F.type_list_append mt_append ho ha hbase hfew hline hs hplain
/-- s.index(c), c in s -/
theorem p_six {apos cpos : Pos} (ho : PE X a to) (ha : PA X [e] t) (hc : X.calm = true := by rfl) (hbase : attributeBase a "index" X.env (eval a X.env) = eval a X.env := by rfl)
    (hfew : ((backTo cpos (starEach [e] X.env)).all (fun x => !x.1) && (backToKw cpos (keywordEach [] X.env)).all (fun x => x.1.isSome) && decide (([e] : List Expr).length + ([] : List Keyword).length + (if ([] : List Keyword).isEmpty then 0 else 1) < 30)) = true := by rfl)
    (hline : (apos.endLine == cpos.line) = true := by rfl) (hs : starEach [e] X.env = (false, eval e X.env) :: starEach [] X.env := by rfl) (hplain : (backTo cpos (starEach [] X.env)).any (·.1) = false := by rfl) (hK : X.K = K := by rfl) :
    PE X (.Call (.Attribute a "index" apos) [e] [] cpos) (tBMS K "str" (rIndexX fun _ _ _ _ => False) to t) := by
  subst hK
  exact pe_bmS PySem.F.plainAttrs_str PySem.F.slot_str_index PySem.F.type_str_index (mt_indexX hc takes0) ho ha hbase hfew hline hs hplain
/-- l.index(x), x flat -/
theorem p_lix {apos cpos : Pos} (ho : PE X a to) (ha : PA X [e] t) (hbase : attributeBase a "index" X.env (eval a X.env) = eval a X.env := by rfl)
    (hfew : ((backTo cpos (starEach [e] X.env)).all (fun x => !x.1) && (backToKw cpos (keywordEach [] X.env)).all (fun x => x.1.isSome) && decide (([e] : List Expr).length + ([] : List Keyword).length + (if ([] : List Keyword).isEmpty then 0 else 1) < 30)) = true := by rfl)
    (hline : (apos.endLine == cpos.line) = true := by rfl) (hs : starEach [e] X.env = (false, eval e X.env) :: starEach [] X.env := by rfl) (hplain : (backTo cpos (starEach [] X.env)).any (·.1) = false := by rfl) (hK : X.K = K := by rfl) :
    PE X (.Call (.Attribute a "index" apos) [e] [] cpos) (tBM K "list" (rIndex K) to t) := by
  subst hK
  exact pe_bm PySem.F.plainAttrs_list PySem.F.slot_list_index PySem.F.type_list_index mt_index ho ha hbase hfew hline hs hplain
/-- l.index(x), data of any depth -/
theorem p_lixD (hu : X.A.units + 65 < cLine) {apos cpos : Pos} (ho : PE X a to) (ha : PA X [e] t) (hbase : attributeBase a "index" X.env (eval a X.env) = eval a X.env := by rfl)
    (hfew : ((backTo cpos (starEach [e] X.env)).all (fun x => !x.1) && (backToKw cpos (keywordEach [] X.env)).all (fun x => x.1.isSome) && decide (([e] : List Expr).length + ([] : List Keyword).length + (if ([] : List Keyword).isEmpty then 0 else 1) < 30)) = true := by rfl)
    (hline : (apos.endLine == cpos.line) = true := by rfl) (hs : starEach [e] X.env = (false, eval e X.env) :: starEach [] X.env := by rfl) (hplain : (backTo cpos (starEach [] X.env)).any (·.1) = false := by rfl) (hK : X.K = K := by rfl) :
    PE X (.Call (.Attribute a "index" apos) [e] [] cpos) (tBM K "list" (rIndexD K) to t) := by
  subst hK
  exact pe_bm PySem.F.plainAttrs_list PySem.F.slot_list_index PySem.F.type_list_index (mt_indexD hu) ho ha hbase hfew hline hs hplain
/-- a target of several names -/
theorem g_tup (m : Nat) {ts : List Expr} {kk : Nat} {tgs : TGs} (h : PGs X ts tgs) (hc : X.calm = true := by rfl) (hn : (assignEach ts X.env).length = m := by rfl) (hst : (assignEach ts X.env).findIdx? (·.1) = none := by rfl) (hK : X.K = K := by rfl) :
    PG X (.Tuple ts kk pos) (gTup K m tgs) := by
  subst hK
  exact pg_tup hc h hn hst
/-- d.get(k, x) -/
theorem p_get (hu : X.A.units + 1 < cLine) {f o : Expr} {tf : TE} {apos cpos : Pos} (ho : PE X o to) (he : PE X e ta) (hf : PE X f tf) (m : M2 X o "get" apos e f cpos := by exact ⟨by rfl, by rfl, by rfl, by rfl⟩) : PE X (.Call (.Attribute o "get" apos) [e, f] [] cpos) (tDGet2 to ta tf) :=
  pe_dget2 hu ho he hf m
/-- sep.join(l) -/
def tJoin (K : PySem.W.Frag) (to te : TE) : TE := tM1 (fun x xs H Q => ∃ a p, ∃ ys : List Str, x = .str a ∧ xs = [.ref p] ∧ (SqL K H p (ys.map V.str) ∨ SqT K H p (ys.map V.str)) ∧ (ys.map (·.length)).sum + ys.length * a.length ≤ 16777216 ∧ Q (.str (Txt.join a ys)) H) to te
theorem p_join {apos : Pos} (ho : PE X a to) (he : PE X e ta) (hs : starEach [e] X.env = [(false, eval e X.env)] := by rfl) (hbase : attributeBase a "join" X.env (eval a X.env) = eval a X.env := by rfl) (hline : (apos.endLine == pos.line) = true := by rfl) (hK : X.K = K := by rfl) :
    PE X (.Call (.Attribute a "join" apos) [e] [] pos) (tJoin K to ta) := by
  subst hK
  exact pe_join ho he hs hbase hline
end
section
variable {X : Cx} {a b v : Expr} {ta tb tv : TE} {pos pos' : Pos}
theorem p_ixs (ha : PE X a ta) (hb : PE X b tb) (hs : PlainIx b := by exact fun _ _ => rfl) : PE X (.Subscript a b pos) (tOp rIxS ta tb) := pe_ix ix_str ha hb hs
theorem p_ixd (hu : X.A.units + 1 < cLine) (ha : PE X a ta) (hb : PE X b tb) (hs : NoSl b := by exact fun _ _ => rfl) : PE X (.Subscript a b pos) (tDGet ta tb) := pe_dget hu ha hb hs
theorem t_ind (hu : X.A.units + 1 < cLine) (ha : PE X a ta) (hb : PE X b tb) (h1 : behindInMarks .In b = false := by rfl) : PT X (.Compare a [.In] [b] pos) (tB (tDIn ta tb)) := pt_cmp (pc_din hu ha hb) h1
theorem t_nind (hu : X.A.units + 1 < cLine) (ha : PE X a ta) (hb : PE X b tb) (h1 : behindInMarks .NotIn b = false := by rfl) : PT X (.Compare a [.NotIn] [b] pos) (tB (tDNotIn ta tb)) := pt_cmp (pc_dnotin hu ha hb) h1
theorem t_ins (ha : PE X a ta) (hb : PE X b tb) (h1 : behindInMarks .In b = false := by rfl) : PT X (.Compare a [.In] [b] pos) (tTest (tOp (fun x y H Q => ∃ (c : Nat) (z : Str), x = .str ⟨#[c]⟩ ∧ y = .str z ∧ Q (.bl (decide (c ∈ z.cps.toList))) H) ta tb)) := pt_cmpR op_in_sign ha hb h1
theorem t_nins (ha : PE X a ta) (hb : PE X b tb) (h1 : behindInMarks .NotIn b = false := by rfl) : PT X (.Compare a [.NotIn] [b] pos) (tTest (tOp (fun x y H Q => ∃ (c : Nat) (z : Str), x = .str ⟨#[c]⟩ ∧ y = .str z ∧ Q (.bl (!decide (c ∈ z.cps.toList))) H) ta tb)) := pt_cmpR op_notIn_sign ha hb h1
theorem p_dput (hu : X.A.units + 1 < cLine) (ho : PE X a ta) (hi : PE X b tb) (hv : PE X v tv) (hs : swapsWith v (some (.Subscript a b pos')) pos.line X.env = pure false := by rfl) :
    PS X (.Assign [.Subscript a b pos'] v pos) (sDPut ta tb tv) := ps_dput hu ho hi hv hs
end
/-- a def with defaults, out of which nothing is let -/
theorem okD {P : Program} {w : World} {K : PySem.W.Frag} {mg : Str → Option Value} {base : Heap} {x qual : Str} {params : Arguments} {body : List Stmt} {scope : Scope} {dvs : List V} {kws : List (Str × V)} {f : Addr} {fd : FuncData} {N ps : List Str} {k : Nat} {sp : Sp}
    (F : FunD K x qual params body scope dvs kws f fd) (S : FnScope N ps scope) (len : ∀ vs H Q E, sp vs H Q E → vs.length = ps.length)
    (hbody : ∀ (cdv : Value) (A : Around) (outer : List Env) (s : Shared) (H : Hp) (vs : List V) (Q : VK) (E : XK), Room k (A.deeper (envOfC qual scope s.heap.objs.size f cdv)) → sp vs H Q E →
      ∃ t, PSs (cxOf CX0 P w K mg base N qual scope f cdv A outer s H E).nox body t ∧ t { nx := fun _ H' => Q .non H', rt := Q } (start N vs) H) : FnOk P w K mg base CX0 (k + 1) f fd ps sp := by
  refine F.ok S len fun cdv A outer s H vs Q E hr hsp => ?_
  obtain ⟨t, h, q⟩ := hbody cdv A outer s H vs Q E hr hsp
  exact ⟨t, h.nox, q⟩
/-- a def that keeps its promise, called without its last arguments -/
structure GotD (P : Program) (w : World) (K : PySem.W.Frag) (mg : Str → Option Value) (base : Heap) (CX : CXT) (k : Nat) (x : Str) (ps : List Str) (dvs : List V) (sp : Sp) : Prop where
  ex : ∃ f fd ds, FnOk P w K mg base CX k f fd ps sp ∧ Binds K fd ps ds ∧ Vals dvs ds ∧ PySem.W.keepIn K (.ref f) = true ∧ mg x = some (.ref f)
theorem GotD.call {X : Cx} {k : Nat} {x : Str} {ps : List Str} {dvs : List V} {sp : Sp} {e : Expr} {es : List Expr} {t : TA} {p pos : Pos} (C : GotD X.prog X.w X.K X.mg X.base CX0 k x ps dvs sp) (hr : Room k X.A) (hg : Gl X x)
    (ha : PA X (e :: es) t) (hdb : (x == ("__debug__" : Str)) = false := by decide) (he : starEach (e :: es) X.env = (false, eval e X.env) :: starEach es X.env := by rfl) (hpl : (backTo pos (starEach es X.env)).any (·.1) = false := by rfl) :
    PE X (.Call (.Name x p) (e :: es) [] pos) (tCall sp dvs E0 t) := by
  obtain ⟨f, fd, ds, F, b, rv, kp, m⟩ := C.ex
  exact pe_call F hr hg m kp b rv pass0 ha hdb he hpl
/-- an object that is new here: from now on it is known as it stands -/
def tFrz (t : TE) : TE := fun σ H Q => t σ H fun x H1 => ∃ d u, x = .ref d ∧ H1 d = some u ∧ Mut (some u) ∧ ∀ od, Q x (upd H1 d (.frz od u))
theorem pe_frz {X : Cx} {e : Expr} {t : TE} (h : PE X e t) : PE X e (tFrz t) := by
  constructor
  intro pins s σ H Q I hw
  refine thn (h.run pins s σ _ _ I hw) fun v s1 w1 => ?_
  obtain ⟨x, H1, I1, r, d, u, rfl, hd, mu, q⟩ := w1
  obtain ⟨od, I2⟩ := I1.lock hd mu
  exact ⟨.ref d, _, I2, r, q od⟩
/-! ### dicts of stands -/
def kK (x : Nat) : Key := .inl (x : Nat)
def kF (acc : Acc) : List (Key × V) := acc.map fun p => (kK p.1, V.str (tx p.2))
theorem kK_inj {x y : Nat} (h : kK x = kK y) : x = y := by
  have e : ((x : Nat) : Int) = (y : Nat) := Sum.inl.inj h
  omega
theorem kF_none {acc : Acc} {x : Nat} (h : x ∉ acc.map (·.1)) : valV (kF acc) (kK x) = none := by
  induction acc with
  | nil => rfl
  | cons p r ih =>
    have h1 : p.1 ≠ x := fun e => h (by rw [List.map_cons, e]; exact List.mem_cons_self)
    have h2 : x ∉ r.map (·.1) := fun e => h (by rw [List.map_cons]; exact List.mem_cons_of_mem _ e)
    show valV ((kK p.1, V.str (tx p.2)) :: kF r) (kK x) = none
    rw [valV_neg (fun e => h1 (kK_inj e))]
    exact ih h2
theorem kF_some {acc : Acc} (nd : (acc.map (·.1)).Nodup) {x : Nat} {w : Word} (h : (x, w) ∈ acc) : valV (kF acc) (kK x) = some (.str (tx w)) := by
  induction acc with
  | nil => simp at h
  | cons p r ih =>
    rw [List.map_cons] at nd
    obtain ⟨n1, n2⟩ := List.nodup_cons.mp nd
    show valV ((kK p.1, V.str (tx p.2)) :: kF r) (kK x) = _
    rcases List.mem_cons.mp h with e | h
    · subst e
      rw [valV_pos rfl]
    · have hx : x ∈ r.map (·.1) := List.mem_map.mpr ⟨_, h, rfl⟩
      rw [valV_neg (fun e => n1 (by rw [kK_inj e]; exact hx))]
      exact ih n2 h
theorem kF_length (acc : Acc) : (kF acc).length = acc.length := List.length_map _
theorem kF_snoc (acc : Acc) (x : Nat) (w : Word) : kF (acc ++ [(x, w)]) = kF acc ++ [(kK x, .str (tx w))] := by
  unfold kF
  rw [List.map_append]
  rfl
end Own
namespace Own
open PySem PySem.Spec PyProof.Rows L2
theorem eqvAll_map {α : Type} [DecidableEq α] (f : α → PyData) (h : ∀ x y, PyData.eqv (f x) (f y) = decide (x = y)) : ∀ xs ys : List α, PyData.eqvAll (xs.map f) (ys.map f) = decide (xs = ys)
  | [], [] => by simp [PyData.eqvAll]
  | [], y :: ys => by simp [PyData.eqvAll]
  | x :: xs, [] => by simp [PyData.eqvAll]
  | x :: xs, y :: ys => by
    simp only [List.map_cons, PyData.eqvAll]
    rw [h, eqvAll_map f h xs ys]
    by_cases e : x = y <;> simp [e]
theorem canLay_map {α : Type} (f : α → PyData) (h : ∀ x, (f x).canLay0 = true) : ∀ xs : List α, PyData.canLayAll0 (xs.map f) = true
  | [] => by simp [PyData.canLayAll0]
  | x :: xs => by simp [PyData.canLayAll0, h x, canLay_map f h xs]
theorem depth_map {α : Type} (f : α → PyData) (b : Nat) (h : ∀ x, (f x).depth ≤ b) : ∀ xs : List α, PyData.depthAll (xs.map f) ≤ b
  | [] => by simp [PyData.depthAll]
  | x :: xs => by
    have h1 := h x
    have h2 := depth_map f b h xs
    simp only [List.map_cons, PyData.depthAll]
    omega
theorem dpAll_map {α : Type} {K : PySem.W.Frag} {H : Hp} (v : α → V) (f : α → PyData) : ∀ xs : List α, (∀ x, x ∈ xs → Dp K H (v x) (f x)) → DpAll K H (xs.map v) (xs.map f)
  | [], _ => .nil
  | x :: xs, h => .cons (h x List.mem_cons_self) (dpAll_map v f xs fun y hy => h y (List.mem_cons_of_mem _ hy))
/-- lists of booleans -/
def dBs (L : List Bool) : PyData := .list (L.map .bool)
theorem eqv_dBs (L M : List Bool) : PyData.eqv (dBs L) (dBs M) = decide (L = M) := by
  unfold dBs
  rw [PyData.eqv]
  exact eqvAll_map _ (fun x y => by cases x <;> cases y <;> rfl) L M
theorem shaped_dBs (L : List Bool) : SeqAt.shaped (dBs L) = true := by
  unfold SeqAt.shaped dBs
  have h1 : (PyData.list (L.map .bool)).canLay0 = true := by
    rw [PyData.canLay0]
    exact canLay_map _ (fun x => by simp [PyData.canLay0]) L
  have h2 : (PyData.list (L.map .bool)).depth ≤ 64 := by
    have h := depth_map PyData.bool 0 (fun x => by simp [PyData.depth]) L
    simp only [PyData.depth]
    omega
  rw [h1, decide_eq_true h2]
  rfl
theorem dp_dBs {K : PySem.W.Frag} {H : Hp} {a : Addr} {L : List Bool} (h : SqL K H a (L.map V.bl)) : Dp K H (.ref a) (dBs L) := .lst h (dpAll_map _ _ L fun x _ => .bl x)
end Own
namespace Own
open PySem PySem.Spec PyProof.Rows L2
/-- an own exception's class, as the module's top has made it -/
structure ExcT (K : PySem.W.Frag) (mg : Str → Option Value) (x : Str) (C : Addr) : Prop where
  gC : mg x = some (.ref C)
  xC : PySem.W.excIn K C [.type "ValueError", .type "Exception", .type "BaseException", .type "object"] "ValueError.__new__" = true
  kC : PySem.W.keepIn K (.ref C) = true
  bC : PySem.W.subIn K (.ref C) (.type "BaseException") = some true
  tC : PySem.W.typeIn K (.ref C) = some (.type "type")
  te : PySem.W.exmOne K (.ref C) (.ref C) = some true
/-- raise X('..') -/
theorem p_raise {X : Cx} {W : WX} {x m : Str} {j : Nat} {p p2 pos pos' : Pos} {C : Addr} (T : ExcT X.K X.mg x C) (tk : Takes X W) (hg : Gl X x) (hc : X.calm = true := by rfl) (hdb : (x == ("__debug__" : Str)) = false := by decide) :
    PS X (.Raise (some (.Call (.Name x p) [.Constant (.str m) j p2] [] pos)) none pos') (fun _ σ H => W (.ref C) none σ H) :=
  ps_raise hc tk (pmk_own PySem.F.excBase_ValueError T.xC T.gC T.kC (raises_own T.bC T.tC) hg hdb)
/-- a def that may raise, called where that is wished for -/
structure GotX (P : Program) (w : World) (K : PySem.W.Frag) (mg : Str → Option Value) (base : Heap) (k : Nat) (x : Str) (ps : List Str) (sp : Sp) : Prop where
  ex : ∃ f fd, FnOk P w K mg base (L2.CX P w) k f fd ps sp ∧ Binds K fd ps [] ∧ PySem.W.keepIn K (.ref f) = true ∧ mg x = some (.ref f)
section
variable {X : Cx} {k : Nat} {x : Str} {ps : List Str} {sp : Sp} {e : Expr} {es : List Expr} {t : TA} {p pos : Pos}
/-- where it does not raise -/
theorem GotX.call (C : GotX X.prog X.w X.K X.mg X.base k x ps sp) (hr : Room k X.A) (hg : Gl X x) (ha : PA X (e :: es) t) (hdb : (x == ("__debug__" : Str)) = false := by decide) (he : starEach (e :: es) X.env = (false, eval e X.env) :: starEach es X.env := by rfl)
    (hpl : (backTo pos (starEach es X.env)).any (·.1) = false := by rfl) : PE X (.Call (.Name x p) (e :: es) [] pos) (tCall sp [] E0 t) := by
  obtain ⟨f, fd, F, b, kp, m⟩ := C.ex
  exact pe_call F hr hg m kp b .nil passL ha hdb he hpl
theorem GotX.callX {W : WX} (C : GotX X.prog X.w X.K X.mg X.base k x ps sp) (tk : Takes X W) (hr : Room k X.A) (hg : Gl X x) (ha : PA X (e :: es) t) (hdb : (x == ("__debug__" : Str)) = false := by decide) (he : starEach (e :: es) X.env = (false, eval e X.env) :: starEach es X.env := by rfl)
    (hpl : (backTo pos (starEach es X.env)).any (·.1) = false := by rfl) : PE X (.Call (.Name x p) (e :: es) [] pos) (tCallS sp (WE W) t) := by
  obtain ⟨f, fd, F, b, kp, m⟩ := C.ex
  exact pe_callS F hr hg m kp b (fun σ => passAt tk σ) ha hdb he hpl
end
/-- a dict comprehension over a walk -/
theorem dc_it {J : It} {n : Nat} {G : Hp → Prop} {Y : Nat → Hp → V → Hp → Prop} (w : Walk J n G Y) {g : TG} {tt : TT} {tk tv : TE} {vs : List Nat} {σ : L2.St} {H1 : Hp} {D : Addr} {Qd : Hp → Prop} (Pv : Nat → Hp → Prop) (h0 : Pv 0 (upd H1 D (.dK []))) (hG : ∀ i H, i ≤ n → Pv i H → G H)
    (hs : ∀ i x H H', i < n → Pv i H → Y i H x H' → g x (wipe σ vs) H' fun σ2 H2 => wipe σ2 vs = wipe σ vs ∧ tt σ2 H2 fun b H3 =>
      if b = true then tk σ2 H3 fun y H4 => tv σ2 H4 fun z H5 => ∃ kvs k, y = kV k ∧ H5 D = some (.dK kvs) ∧ kvs.length < sizeLine ∧ Pv (i + 1) (upd H5 D (.dK (putK kvs k z))) else Pv (i + 1) H3) (hd : ∀ H, Pv n H → Qd H) :
    ∃ W : Nat → Nat → Hp → Prop, (∃ m, W 0 m (upd H1 D (.dK []))) ∧ ∀ i m H, W i m H →
      (J.stop i H ∧ Qd H) ∨ (J.go i H ∧ ∃ Nx : Hp → Prop, (∀ H', Nx H' → ∃ m', m' < m ∧ W (i + 1) m' H') ∧ ∀ x H', J.yld i H x H' → g x (wipe σ vs) H' fun σ2 H2 => wipe σ2 vs = wipe σ vs ∧ tt σ2 H2 fun b H3 =>
        if b = true then tk σ2 H3 fun y H4 => tv σ2 H4 fun z H5 => ∃ kvs k, y = kV k ∧ H5 D = some (.dK kvs) ∧ kvs.length < sizeLine ∧ Nx (upd H5 D (.dK (putK kvs k z))) else Nx H3) := by
  refine ⟨fun i m H => m = n - i ∧ i ≤ n ∧ Pv i H, ⟨n, by simp, Nat.zero_le _, h0⟩, ?_⟩
  rintro i m H ⟨rfl, hi, p⟩
  have q := hG i H hi p
  by_cases hlt : i < n
  · exact .inr ⟨w.goes i H hlt q, Pv (i + 1), fun H' p' => ⟨n - (i + 1), by omega, rfl, hlt, p'⟩, fun x H' y => hs i x H H' hlt p (w.yields i H x H' hlt q y)⟩
  · have e : i = n := by omega
    subst e
    exact .inl ⟨w.stops H q, hd H p⟩
end Own
namespace Own
open PySem PySem.Spec PyProof.Rows L2
section
variable {P : Program} {w : World} {K : PySem.W.Frag} {mg : Str → Option Value} {base : Heap}
abbrev s_is_integer : Stmt := topS 9
theorem sc_is_integer : FnScope ["value"] ["value"] (defScope s_is_integer) := ⟨rfl, rfl, rfl, by decide +kernel, rfl, by decide +kernel, by decide +kernel⟩
def sp_is_integer : Sp := fun vs H Q _ => ∃ i : Int, vs = [.int i] ∧ Q (.bl true) H
theorem ok_is_integer {f : Addr} {fd : FuncData} (F : Fun K "is_integer" "is_integer" s_is_integer f fd) (B : Bt mg) : FnOk P w K mg base CX0 1 f fd ["value"] sp_is_integer := by
  refine F.ok sc_is_integer (fun vs H Q E h => ?_) (fun cdv A outer s H vs Q E hr h => ?_)
  · obtain ⟨i, rfl, _⟩ := h
    rfl
  obtain ⟨i, rfl, q⟩ := h
  refine ⟨_, (pss_one (ps_ret (pe_and (pe_callB (c_isi K) (by rfl) B.isinstance bt_isinstance (pa_cons (pv 0) (pa_cons (pe_bltn (v := .ty "int") (by rfl) B.int bt_int rfl) pa_nil))) (pe_one (pe_not (pe_callB (c_isi K) (by rfl) B.isinstance bt_isinstance (pa_cons (pv 0) (pa_cons (pe_bltn (v := .ty "bool") (by rfl) B.bool bt_bool rfl) pa_nil)))))))), ?_⟩
  refine ⟨_, rfl, _, _, _, _, true, rfl, .ty "int", .base (.int i), kit_ty (by decide +kernel), true, rfl, iteT ?_⟩
  exact ⟨_, rfl, _, _, _, _, false, rfl, .ty "bool", .base (.int i), kit_ty (by decide +kernel), false, rfl, q⟩
abbrev s_is_between : Stmt := topS 10
theorem sc_is_between : FnScope ["value", "low", "high"] ["value", "low", "high"] (defScope s_is_between) := ⟨rfl, rfl, rfl, by decide +kernel, rfl, by decide +kernel, by decide +kernel⟩
def sp_is_between : Sp := fun vs H Q _ => ∃ v lo hi : Int, vs = [.int v, .int lo, .int hi] ∧ Q (.bl (decide (lo ≤ v) && decide (v ≤ hi))) H
theorem ok_is_between {f : Addr} {fd : FuncData} (F : Fun K "is_between" "is_between" s_is_between f fd) (B : Bt mg) (C_is_integer : Got P w K mg base CX0 1 "is_integer" ["value"] sp_is_integer) :
    FnOk P w K mg base CX0 2 f fd ["value", "low", "high"] sp_is_between := by
  refine F.ok sc_is_between (fun vs H Q E h => ?_) (fun cdv A outer s H vs Q E hr h => ?_)
  · obtain ⟨v, lo, hi, rfl, _⟩ := h
    rfl
  obtain ⟨v, lo, hi, rfl, q⟩ := h
  refine ⟨_, (pss_one (ps_ret (pe_and (C_is_integer.call hr (by rfl) (pa_cons (pv 0) pa_nil)) (pe_one (pe_chain op_le op_le (pv 1) (pv 0) (pv 2)))))), ?_⟩
  refine ⟨_, rfl, v, rfl, true, rfl, iteT ?_⟩
  refine ⟨_, rfl, _, rfl, _, _, rfl, rfl, _, rfl, ite2 (fun c => ?_) (fun c => ?_)⟩
  · rw [c, Bool.true_and] at q
    exact ⟨_, rfl, _, _, rfl, rfl, q⟩
  · rw [Bool.eq_false_iff.mpr c, Bool.false_and] at q
    exact q
abbrev s_is_text : Stmt := topS 11
theorem sc_is_text : FnScope ["size", "value"] ["size", "value"] (defScope s_is_text) := ⟨rfl, rfl, rfl, by decide +kernel, rfl, by decide +kernel, by decide +kernel⟩
/-- a text of letters -/
def sp_is_text : Sp := fun vs H Q _ => ∃ (k : Nat) (u : Word), vs = [nV k, .str (tx u)] ∧ k ≤ 3 ∧ Wd k u ∧ u.length ≤ 100000 ∧ Q (.bl true) H
theorem ok_is_text {f : Addr} {fd : FuncData} (F : Fun K "is_text" "is_text" s_is_text f fd) (B : Bt mg) : FnOk P w K mg base CX0 1 f fd ["size", "value"] sp_is_text := by
  refine F.ok sc_is_text (fun vs H Q E h => ?_) (fun cdv A outer s H vs Q E hr h => ?_)
  · obtain ⟨k, u, rfl, _⟩ := h
    rfl
  obtain ⟨k, u, rfl, hk, hu, hl, q⟩ := h
  refine ⟨_, (pss_one (ps_ret (pe_and (pe_callB (c_isi K) (by rfl) B.isinstance bt_isinstance (pa_cons (pv 1) (pa_cons (pe_bltn (v := .ty "str") (by rfl) B.str bt_str rfl) pa_nil))) (pe_one (pe_cmpR op_eq (pe_bm PySem.F.plainAttrs_str PySem.F.slot_str_strip PySem.F.type_str_strip mt_stripChars (pv 1) (pa_cons (pe_slice sl_str (pe_g (by rfl) B.gLetters) po_none (po_some (pv 0))) pa_nil)) pe_str (nomark _)))))), ?_⟩
  refine ⟨_, rfl, _, _, _, _, true, rfl, .ty "str", .base (.str _), kit_ty (by decide +kernel), true, rfl, iteT ?_⟩
  refine ⟨_, rfl, rfl, _, rfl, (k : Int), rfl, _, rfl, (by decide), _, _, rfl, rfl, ?_, rfl, ?_⟩
  · rw [tx_length]
    exact Nat.le_of_lt (by rw [sizeLine_eq]; omega)
  · rw [abc_eq, cut_abc k hk, strip_all hu, ← empty_eq, decide_eq_true rfl]
    exact q
abbrev s_is_tuple_of : Stmt := topS 12
theorem sc_is_tuple_of : FnScope ["value", "many"] ["value", "many"] (defScope s_is_tuple_of) := ⟨rfl, rfl, rfl, by decide +kernel, rfl, by decide +kernel, by decide +kernel⟩
def sp_is_tuple_of (K : PySem.W.Frag) : Sp := fun vs H Q _ => ∃ (a : Addr) (xs : List V), vs = [.ref a, nV xs.length] ∧ SqT K H a xs ∧ Q (.bl true) H
theorem ok_is_tuple_of {f : Addr} {fd : FuncData} (F : Fun K "is_tuple_of" "is_tuple_of" s_is_tuple_of f fd) (B : Bt mg) : FnOk P w K mg base CX0 1 f fd ["value", "many"] (sp_is_tuple_of K) := by
  refine F.ok sc_is_tuple_of (fun vs H Q E h => ?_) (fun cdv A outer s H vs Q E hr h => ?_)
  · obtain ⟨a, xs, rfl, _⟩ := h
    rfl
  obtain ⟨a, xs, rfl, hx, q⟩ := h
  refine ⟨_, (pss_one (ps_ret (pe_and (pe_callB (c_isi K) (by rfl) B.isinstance bt_isinstance (pa_cons (pv 0) (pa_cons (pe_bltn (v := .ty "tuple") (by rfl) B.tuple bt_tuple rfl) pa_nil))) (pe_one (pe_cmpR op_eq (pe_callB (c_len K) (by rfl) B.len bt_len (pa_cons (pv 0) pa_nil)) (pv 1) (nomark _)))))), ?_⟩
  refine ⟨_, rfl, _, _, _, _, true, rfl, .ty "tuple", tyx_tup hx, kit_ty (by decide +kernel), true, rfl, iteT ?_⟩
  refine ⟨_, rfl, a, xs, rfl, .inr hx, _, rfl, rfl, ?_⟩
  rw [show nV xs.length = V.int (xs.length : Nat) from rfl, decide_eq_true rfl]
  exact q
abbrev s_table_size : Stmt := topS 22
theorem sc_table_size : FnScope ["table"] ["table"] (defScope s_table_size) := ⟨rfl, rfl, rfl, by decide +kernel, rfl, by decide +kernel, by decide +kernel⟩
def sp_table_size (K : PySem.W.Frag) : Sp := fun vs H Q _ => ∃ (t r e : Addr) (T : Tab) (k n : Nat), vs = [.ref t] ∧ TabAt K H t r e T ∧ T.Ok k n ∧ Q (nV k) H
theorem ok_table_size {f : Addr} {fd : FuncData} (F : Fun K "table_size" "table_size" s_table_size f fd) (B : Bt mg) : FnOk P w K mg base CX0 1 f fd ["table"] (sp_table_size K) := by
  refine F.ok sc_table_size (fun vs H Q E h => ?_) (fun cdv A outer s H vs Q E hr h => ?_)
  · obtain ⟨t, r, e, T, k, n, rfl, _⟩ := h
    rfl
  obtain ⟨t, r, e, T, k, n, rfl, A1, O, q⟩ := h
  refine ⟨_, (pss_one (ps_ret (pe_callB (c_len K) (by rfl) B.len bt_len (pa_cons (p_ixt K (p_ixt K (pv 0) pe_int) pe_int) pa_nil)))), ?_⟩
  have h0 : 0 < n := O.n1
  obtain ⟨a, xs, h1, h2, h3, _, h4⟩ := A1.rows.get (s := 0) (by rw [O.rl]; exact h0)
  refine ⟨_, rfl, t, _, _, _, rfl, rfl, A1.top, rfl, r, _, _, _, rfl, rfl, h1, h3, a, _, rfl, .inr h4, ?_⟩
  rw [List.length_map, O.rowlen h0]
  exact q
abbrev s_stand_after : Stmt := topS 16
theorem sc_stand_after : FnScope ["rows", "stand", "letters", "letter"] ["rows", "stand", "letters"] (defScope s_stand_after) := ⟨rfl, rfl, rfl, by decide +kernel, rfl, by decide +kernel, by decide +kernel⟩
def sp_stand_after (K : PySem.W.Frag) : Sp := fun vs H Q _ => ∃ (r l : Addr) (T : Tab) (k n s : Nat) (u : Word), vs = [.ref r, nV s, .ref l] ∧ RowsAt K H r T.rows ∧ T.Ok k n ∧ s < n ∧ SqL K H l (u.map nV) ∧ Wd k u ∧ Q (nV (T.run s u)) H
theorem ok_stand_after {f : Addr} {fd : FuncData} (F : Fun K "stand_after" "stand_after" s_stand_after f fd) (B : Bt mg) : FnOk P w K mg base CX0 1 f fd ["rows", "stand", "letters"] (sp_stand_after K) := by
  refine F.ok sc_stand_after (fun vs H Q E h => ?_) (fun cdv A outer s0 H vs Q E hr h => ?_)
  · obtain ⟨r, l, T, k, n, s, u, rfl, _⟩ := h
    rfl
  obtain ⟨r, l, T, k, n, s, u, rfl, A1, O, hs, hl, hu, q⟩ := h
  refine ⟨_, (pss_cons (ps_for PassesOwn.never rfl (p_list K (pv 2)) (pg_name (i := 3) sc_stand_after.nd rfl (Or.inl rfl)) (pss_one (ps_set (i := 1) sc_stand_after.nd rfl (Or.inl rfl) (p_ixt K (p_ixt K (pv 0) (pv 1)) (pv 3))))) (pss_one (ps_ret (pv 1)))), ?_⟩
  refine ⟨_, rfl, l, rfl, ⟨_, hl⟩, for_list (K := K) (a := l) (xs := u.map nV) (fun i σ H2 => ∃ v, σ = [some (.ref r), some (nV (T.run s (u.take i))), some (.ref l), v] ∧ H2 = H)
    ⟨none, rfl, rfl⟩ (fun i σ H2 _ ⟨_, _, e⟩ => by rw [e]; exact hl) ?_ ?_⟩
  · rintro i x σ H2 hi ⟨v, rfl, rfl⟩
    rw [List.getElem?_map] at hi
    cases e : u[i]? with
    | none =>
      rw [e] at hi
      cases hi
    | some y =>
      rw [e] at hi
      obtain rfl : nV y = x := Option.some.inj hi
      have hy : y < k := hu y (List.mem_of_getElem? e)
      have hsi : T.run s (u.take i) < n := O.run_lt hs fun z hz => hu z (List.mem_of_mem_take hz)
      obtain ⟨a, xs, h1, h2, h3, _, h4⟩ := A1.get (s := T.run s (u.take i)) (by rw [O.rl]; exact hsi)
      refine ⟨_, rfl, _, rfl, r, _, _, _, rfl, rfl, h1, h3, _, rfl, a, _, _, _, rfl, rfl, h4, O.at_st hsi hy, ?_⟩
      refine ⟨some (nV y), ?_, rfl⟩
      rw [List.take_add_one, e, Tab.run_append]
      rfl
  · rintro σ H2 ⟨v, rfl, rfl⟩
    refine ⟨_, rfl, ?_⟩
    rw [List.length_map, List.take_length]
    exact q
end
end Own
namespace Own
open PySem PySem.Spec PyProof.Rows L2
section
variable {P : Program} {w : World} {K : PySem.W.Frag} {mg : Str → Option Value} {base : Heap}
abbrev s_first_texts : Stmt := topS 15
theorem sc_first_texts : FnScope ["rows", "start", "texts", "queue", "at", "stand", "letter", "later"] ["rows", "start"] (defScope s_first_texts) := ⟨rfl, rfl, rfl, by decide +kernel, rfl, by decide +kernel, by decide +kernel⟩
def sp_first_texts (K : PySem.W.Frag) : Sp := fun vs H Q _ => ∃ (r : Addr) (T : Tab) (k n : Nat), vs = [.ref r, .int 0] ∧ RowsAt K H r T.rows ∧ T.Ok k n ∧
  ∀ (d : Addr) (H' : Hp), Same H H' → H d = none → H' d = some (.dK (kF (fF T k n))) → Q (.ref d) H'
theorem ok_first_texts {f : Addr} {fd : FuncData} {dvs : List V} (F : FunD K "first_texts" "first_texts" (defArgs s_first_texts) (defBody s_first_texts) (defScope s_first_texts) dvs [] f fd) (B : Bt mg) : FnOk P w K mg base CX0 1 f fd ["rows", "start"] (sp_first_texts K) := by
  refine okD F sc_first_texts (fun vs H Q E h => ?_) (fun cdv A outer s H vs Q E hr h => ?_)
  · obtain ⟨r, T, k, n, rfl, _⟩ := h
    rfl
  obtain ⟨r, T, k, n, rfl, A1, O, q⟩ := h
  have hu := hu_of hr
  refine ⟨_, ((pss_cons (ps_set (i := 2) sc_first_texts.nd rfl (Or.inl rfl) (pe_disp (pps_cons (pv 1) pe_str pps_nil) (by rfl) (by rfl) (fun z => by cases z) (by decide))) (pss_cons (ps_set (i := 3) sc_first_texts.nd rfl (Or.inl rfl) (pe_lst (pa_cons (pv 1) pa_nil))) (pss_cons (ps_set (i := 4) sc_first_texts.nd rfl (Or.inl rfl) pe_int) (pss_cons (ps_while PassesOwn.never (pt_cmpR op_lt (pv 4) (pe_callB (c_len K) (by rfl) B.len bt_len (pa_cons (pv 3) pa_nil)) (nomark _)) (pss_cons (ps_set (i := 5) sc_first_texts.nd rfl (Or.inl rfl) (p_ixl K (pv 3) (pv 4))) (pss_cons (ps_for PassesOwn.never rfl (pi_enumT (by rfl) B.enumerate (pa_cons (p_ixt K (pv 0) (pv 5)) pa_nil)) (g_tup K 2 (pgs_cons (pg_name (i := 6) sc_first_texts.nd rfl (Or.inl rfl)) (pgs_cons (pg_name (i := 7) sc_first_texts.nd rfl (Or.inl rfl)) pgs_nil))) (pss_one (ps_if (t_nind hu (pv 7) (pv 2)) (pss_cons (p_dput hu (pv 2) (pv 7) (pe_op op_add_str (p_ixd hu (pv 2) (pv 5)) (p_ixs (pe_g (by rfl) B.gLetters) (pv 6)))) (pss_one (ps_expr (p_app K (pv 3) (pa_cons (pv 7) pa_nil))))) pss_nil))) (pss_one (ps_aug (i := 4) sc_first_texts.nd rfl (Or.inl rfl) pe_int ip_add))))) (pss_one (ps_ret (pv 2)))))))), ?_⟩
  -- texts = {start: ''}; queue = [start]; at = 0
  intro d nd
  refine ⟨_, rfl, upd_same, [((Sum.inl (0 : Int) : Key), V.str "")], rfl, by decide, ?_⟩
  rw [upd_upd]
  have s1 : Same H (upd H d (.dK (mergeK [] [((Sum.inl (0 : Int) : Key), V.str "")]))) := same_new nd _
  refine ⟨_, rfl, by decide, fun qa nq => ?_⟩
  have nqd : d ≠ qa := ne_of_none upd_same nq
  have ef0 : mergeK [] [((Sum.inl (0 : Int) : Key), V.str "")] = kF (fF T k 0) := by
    rw [empty_eq]
    rfl
  rw [ef0] at *
  refine ⟨fun m σ H2 => ∃ (i : Nat) (v5 v6 v7 : Option V), m + i = n ∧ i ≤ (fF T k i).length ∧ σ = [some (.ref r), some (.int 0), some (.ref d), some (.ref qa), some (nV i), v5, v6, v7] ∧ Same H H2 ∧ H2 d = some (.dK (kF (fF T k i))) ∧ H2 qa = some (.lst ((fF T k i).map fun p => nV p.1)),
    ⟨n, 0, none, none, none, by omega, Nat.zero_le _, rfl, s1.trans (same_new nq _), ?_, upd_same⟩, ?_⟩
  · rw [upd_ne nqd]
    exact upd_same
  rintro m σ H2 ⟨i, v5, v6, v7, hm, hil, rfl, s2, hd, hq⟩
  have hFn := fF_length O i
  refine ⟨_, rfl, _, rfl, qa, _, rfl, .inl (SqL.of hq), _, _, rfl, rfl, _, rfl, ?_⟩
  rw [List.length_map]
  refine ite2 (fun c => ?_) (fun c => ?_)
  · have hi : i < (fF T k i).length := by
      have c := of_decide_eq_true c
      omega
    obtain ⟨⟨s0, w0⟩, e0⟩ : ∃ p, (fF T k i)[i]? = some p := ⟨_, List.getElem?_eq_getElem hi⟩
    obtain ⟨Fo, hwl⟩ := fF_ok O i
    obtain ⟨hs0, hw0, hr0, _⟩ := Fo.lt s0 w0 (List.mem_of_getElem? e0)
    have hl0 := hwl i s0 w0 e0
    refine ⟨fun σ' H' => ∃ m', m' < m ∧ ∃ (i : Nat) (v5 v6 v7 : Option V), m' + i = n ∧ i ≤ (fF T k i).length ∧ σ' = [some (.ref r), some (.int 0), some (.ref d), some (.ref qa), some (nV i), v5, v6, v7] ∧ Same H H' ∧ H' d = some (.dK (kF (fF T k i))) ∧ H' qa = some (.lst ((fF T k i).map fun p => nV p.1)), fun _ _ h => h, ?_⟩
    refine ⟨_, rfl, _, rfl, qa, _, _, nV s0, rfl, rfl, SqL.of hq, atI_nat (by rw [List.getElem?_map, e0]; rfl), ?_⟩
    obtain ⟨a, xs, h1, h2, h3, _, h4⟩ := (A1.same s2).get (s := s0) (by rw [O.rl]; exact hs0)
    refine ⟨_, rfl, _, rfl, r, _, _, _, rfl, rfl, h1, h3, a, _, rfl, h4, ?_⟩
    have hlen : ((T.rows.getD s0 []).map nV).length = k := by rw [List.length_map, O.rowlen hs0]
    refine for_it (walk_enumT (K := K) (a := a) (xs := (T.rows.getD s0 []).map nV)) (fun l σ H3 => ∃ (v6 v7 : Option V), σ = [some (.ref r), some (.int 0), some (.ref d), some (.ref qa), some (nV i), some (nV s0), v6, v7] ∧ Same H H3 ∧ SqT K H3 a ((T.rows.getD s0 []).map nV) ∧ H3 d = some (.dK (kF (fRow T s0 w0 l (fF T k i)))) ∧ H3 qa = some (.lst ((fRow T s0 w0 l (fF T k i)).map fun p => nV p.1)))
      ⟨v6, v7, rfl, s2, h4, hd, hq⟩ (fun l σ H3 _ h => ?_) ?_ ?_
    · obtain ⟨_, _, _, _, h, _⟩ := h
      exact h
    · rintro l x σ H3 H4 hl ⟨v6, v7, rfl, s3, h4, hd3, hq3⟩ ⟨Tp, x1, x2, rfl, nT, rfl, e1, e2⟩
      rw [hlen] at hl
      have ex1 : V.int (l : Nat) = x1 := Option.some.inj e1
      have ex2 : nV (T.st s0 l) = x2 := by
        have z := O.at_st hs0 hl
        have hl2 : l < ((T.rows.getD s0 []).map nV).length := by omega
        rw [atI_nat (List.getElem?_eq_getElem hl2)] at z
        have e2 : ((T.rows.getD s0 []).map nV)[l]? = some x2 := e2
        rw [List.getElem?_eq_getElem hl2] at e2
        exact (Option.some.inj z).symm.trans (Option.some.inj e2)
      subst ex1
      subst ex2
      have Fl := Fo.row O hw0 (by omega) hs0 hr0 l (by omega)
      have hpre := fRow_pre T s0 w0 l (fF T k i)
      have hlen3 : (fRow T s0 w0 l (fF T k i)).length ≤ n := by
        have z := nodup_lt_length n Fl.nd fun x hx => by
          obtain ⟨p, hp, rfl⟩ := List.mem_map.mp hx
          exact (Fl.lt p.1 p.2 hp).1
        rwa [List.length_map] at z
      have h40 := O.n40
      have s4 : Same H3 (upd H3 Tp (.tup [.int (l : Nat), nV (T.st s0 l)])) := same_new nT _
      have hd4 := s4 _ _ hd3
      have hq4 := s4 _ _ hq3
      refine ⟨Tp, _, rfl, SqT.new, rfl, _, _, rfl, _, _, rfl, rfl, ?_⟩
      refine ⟨_, rfl, _, rfl, d, _, rfl, DGet.k (k := kK (T.st s0 l)) hd4, _, rfl, ?_⟩
      by_cases hin : T.st s0 l ∈ (fRow T s0 w0 l (fF T k i)).map (·.1)
      · obtain ⟨p, hp, ep⟩ := List.mem_map.mp hin
        have ev : valV (kF (fRow T s0 w0 l (fF T k i))) (kK (T.st s0 l)) = some (.str (tx p.2)) := kF_some Fl.nd (by rw [← ep]; exact hp)
        rw [ev]
        refine iteF ?_
        refine ⟨_, _, rfl, s3.trans s4, Same.tup s4 h4, ?_, ?_⟩
        · rw [fRow, fAdd, if_pos hin]
          exact hd4
        · rw [fRow, fAdd, if_pos hin]
          exact hq4
      · rw [kF_none hin]
        refine iteT ?_
        have hz : (kF (fRow T s0 w0 l (fF T k i))).length < sizeLine := by
          rw [kF_length]
          exact small1000 (by omega)
        have ev : valV (kF (fRow T s0 w0 l (fF T k i))) (kK s0) = some (.str (tx w0)) := kF_some Fl.nd (List.mem_of_getElem? (pre_get hpre e0))
        have hk3 := O.k3
        refine ⟨_, rfl, _, rfl, d, _, rfl, (by rw [← ev]; exact DGet.k (k := kK s0) hd4), _, rfl, _, _, l + 97, rfl, rfl, (by decide), ?_, _, _, rfl, rfl, ?_, _, rfl, _, rfl, d, _, rfl, DPut.k (k := kK (T.st s0 l)) hd4 hz, ?_⟩
        · refine atI_nat ?_
          rw [abc_eq, Array.getElem?_toList]
          exact at_abc l (by omega)
        · rw [tx_length]
          show w0.length + 1 ≤ sizeLine
          exact Nat.le_of_lt (small1000 (by omega))
        · rw [putK_new _ (kF_none hin)]
          have e3 : kF (fRow T s0 w0 l (fF T k i)) ++ [(kK (T.st s0 l), V.str (tx w0 ++ sg l))] = kF (fRow T s0 w0 (l + 1) (fF T k i)) := by
            rw [sg_eq, tx_append, fRow, fAdd, if_neg hin, kF_snoc]
          have e4 : (⟨#[l + 97]⟩ : Str) = sg l := rfl
          rw [e4, e3]
          have ndq : qa ≠ d := nqd.symm
          have hq5 : (upd (upd H3 Tp (.tup [.int (l : Nat), nV (T.st s0 l)])) d (.dK (kF (fRow T s0 w0 (l + 1) (fF T k i))))) qa = some (.lst ((fRow T s0 w0 l (fF T k i)).map fun p => nV p.1)) := by
            rw [upd_ne ndq]
            exact hq4
          refine ⟨_, rfl, .inl ⟨rfl, _, SqL.of hq5⟩, _, rfl, qa, _, _, rfl, rfl, hq5, ?_, ?_⟩
          · rw [List.length_map]
            exact small1000 (by omega)
          · refine ⟨_, _, rfl, fun b o e => ?_, ?_, ?_, ?_⟩
            · rw [upd_ne (ne_of_none (s1 _ _ e) nq), upd_ne (ne_of_none e nd)]
              exact s4 _ _ (s3 _ _ e)
            · have na : ∀ b o, (upd H3 Tp (.tup [.int (l : Nat), nV (T.st s0 l)])) b = some o → (∀ ys, o ≠ .dK ys) → (∀ ys, o ≠ .lst ys) → (upd (upd (upd H3 Tp (.tup [.int (l : Nat), nV (T.st s0 l)])) d (.dK (kF (fRow T s0 w0 (l + 1) (fF T k i))))) qa (.lst ((fRow T s0 w0 l (fF T k i)).map (fun p => nV p.1) ++ [nV (T.st s0 l)]))) b = some o := by
                intro b o e n1 n2
                rw [upd_ne (ne_of e hq4 (n2 _)), upd_ne (ne_of e hd4 (n1 _))]
                exact e
              rcases Same.tup s4 h4 with (z | ⟨o, z⟩) | z
              · exact .inl (.inl (na _ _ z (fun _ q => nomatch q) (fun _ q => nomatch q)))
              · exact .inl (.inr ⟨o, na _ _ z (fun _ q => nomatch q) (fun _ q => nomatch q)⟩)
              · exact .inr z
            · rw [upd_ne nqd]
              exact upd_same
            · rw [upd_same, fRow, fAdd, if_neg hin, List.map_append]
              rfl
    · rintro σ H3 ⟨v6, v7, rfl, s3, h4, hd3, hq3⟩
      rw [hlen] at hd3 hq3
      have e5 : fRow T s0 w0 k (fF T k i) = fF T k (i + 1) := by rw [fF, e0]
      rw [e5] at hd3 hq3
      refine ⟨_, rfl, _, _, rfl, rfl, m - 1, by omega, i + 1, _, _, _, by omega, ?_, rfl, s3, hd3, hq3⟩
      have z := (fF_pre T k i).length_le
      omega
  · have hi : (fF T k i).length ≤ i := by
      have c : ¬ ((i : Nat) : Int) < ((fF T k i).length : Nat) := of_decide_eq_false (Bool.eq_false_iff.mpr c)
      omega
    refine ⟨_, rfl, q d H2 s2 nd ?_⟩
    rw [fF_stop hi n (by omega)]
    exact hd
end
end Own
namespace Own
open PySem PySem.Spec PyProof.Rows L2
section
variable {P : Program} {w : World} {K : PySem.W.Frag} {mg : Str → Option Value} {base : Heap}
abbrev s_letter_numbers : Stmt := topS 13
theorem sc_letter_numbers : FnScope ["text", "letter"] ["text"] (defScope s_letter_numbers) := ⟨rfl, rfl, rfl, by decide +kernel, rfl, by decide +kernel, by decide +kernel⟩
def sp_letter_numbers : Sp := fun vs H Q _ => ∃ (u : Word), vs = [.str (tx u)] ∧ Wd 3 u ∧ u.length ≤ 100000 ∧ ∀ (l : Addr) (H' : Hp), Same H H' → H l = none → H' l = some (.lst (u.map nV)) → Q (.ref l) H'
theorem ok_letter_numbers {f : Addr} {fd : FuncData} (F : Fun K "letter_numbers" "letter_numbers" s_letter_numbers f fd) (B : Bt mg) : FnOk P w K mg base CX0 1 f fd ["text"] sp_letter_numbers := by
  refine F.ok sc_letter_numbers (fun vs H Q E h => ?_) (fun cdv A outer s H vs Q E hr h => ?_)
  · obtain ⟨u, rfl, _⟩ := h
    rfl
  obtain ⟨u, rfl, hu, hl, q⟩ := h
  refine ⟨_, (pss_one (ps_ret (pe_lc (own := [("letter", 1)]) rfl sc_letter_numbers.nd (pi_str (pv 0)) (blkOk_by (by kernel_rfl)) (fun _ _ _ _ _ => (pg_name (i := 1) sc_letter_numbers.nd rfl (Or.inl rfl))) (fun _ _ _ _ _ => pts_nil) (fun _ _ _ _ _ => (p_six K (pe_g (by rfl) B.gLetters) (pa_cons (pv 1) pa_nil)))))), ?_⟩
  refine ⟨_, rfl, _, rfl, fun D nD => ?_⟩
  refine lc_map walk_str nD (fun i => nV (u.getD i 0)) ?_ (fun _ _ => trivial) ?_ ?_
  · rw [tx_size]
    rw [sizeLine_eq]; omega
  · rintro i x H1 H2 hi s1 ⟨rfl, c, hc, rfl⟩ R hR
    rw [tx_at] at hc
    rw [tx_size] at hi
    rw [List.getElem?_eq_getElem hi] at hc
    obtain rfl : u[i] + 97 = c := Option.some.inj hc
    refine ⟨rfl, rfl, _, rfl, _, _, rfl, rfl, fun z hz => ?_, fun hz => ?_⟩
    · have hz : Txt.index0 (tx [0, 1, 2]) (sg u[i]) = some z := by rw [← abc_eq]; exact hz
      rw [ix_abc _ (hu _ (List.getElem_mem hi))] at hz
      obtain rfl := Option.some.inj hz
      have e : u.getD i 0 = u[i] := by rw [List.getD_eq_getElem?_getD, List.getElem?_eq_getElem hi, Option.getD_some]
      have z := hR H2 (Same.refl _)
      rw [e] at z
      exact z
    · have hz : Txt.index0 (tx [0, 1, 2]) (sg u[i]) = none := by rw [← abc_eq]; exact hz
      rw [ix_abc _ (hu _ (List.getElem_mem hi))] at hz
      cases hz
  · intro H1 s1 e1
    refine q D H1 s1 nD ?_
    rw [e1, tx_size, map_range_get u _ nV]
    intro i x hx
    rw [List.getD_eq_getElem?_getD, hx, Option.getD_some]
abbrev s_check_text : Stmt := topS 20
theorem sc_check_text : FnScope ["size", "text"] ["size", "text"] (defScope s_check_text) := ⟨rfl, rfl, rfl, by decide +kernel, rfl, by decide +kernel, by decide +kernel⟩
def sp_check_text : Sp := fun vs H Q _ => ∃ (k : Nat) (u : Word), vs = [nV k, .str (tx u)] ∧ k ≤ 3 ∧ Wd k u ∧ u.length ≤ 100000 ∧ Q .non H
theorem ok_check_text {f : Addr} {fd : FuncData} (F : Fun K "check_text" "check_text" s_check_text f fd) (B : Bt mg) (C_is_text : Got P w K mg base CX0 1 "is_text" ["size", "value"] sp_is_text) : FnOk P w K mg base CX0 2 f fd ["size", "text"] sp_check_text := by
  refine F.ok sc_check_text (fun vs H Q E h => ?_) (fun cdv A outer s H vs Q E hr h => ?_)
  · obtain ⟨k, u, rfl, _⟩ := h
    rfl
  obtain ⟨k, u, rfl, hk, hu, hl, q⟩ := h
  refine ⟨_, (pss_one (ps_if (pt_not (pt_val (C_is_text.call hr (by rfl) (pa_cons (pv 0) (pa_cons (pv 1) pa_nil))))) (pss_one ps_never) pss_nil)), ?_⟩
  exact ⟨_, rfl, _, rfl, k, u, rfl, hk, hu, hl, true, rfl, iteF q⟩
abbrev s_are_rows : Stmt := topS 24
theorem sc_are_rows : FnScope ["rows", "row", "later"] ["rows"] (defScope s_are_rows) := ⟨rfl, rfl, rfl, by decide +kernel, rfl, by decide +kernel, by decide +kernel⟩
def sp_are_rows (K : PySem.W.Frag) : Sp := fun vs H Q _ => ∃ (r : Addr) (T : Tab) (k n : Nat), vs = [.ref r] ∧ RowsAt K H r T.rows ∧ T.Ok k n ∧ ∀ H', Same H H' → Q (.bl true) H'
theorem ok_are_rows {f : Addr} {fd : FuncData} (F : Fun K "_are_rows" "_are_rows" s_are_rows f fd) (B : Bt mg) (C_is_tuple_of : Got P w K mg base CX0 1 "is_tuple_of" ["value", "many"] (sp_is_tuple_of K)) (C_is_between : Got P w K mg base CX0 2 "is_between" ["value", "low", "high"] sp_is_between) :
    FnOk P w K mg base CX0 3 f fd ["rows"] (sp_are_rows K) := by
  refine F.ok sc_are_rows (fun vs H Q E h => ?_) (fun cdv A outer s H vs Q E hr h => ?_)
  · obtain ⟨r, T, k, n, rfl, _⟩ := h
    rfl
  obtain ⟨r, T, k, n, rfl, A1, O, q⟩ := h
  have hr1 : Room 1 _ := hr.mono (by decide)
  refine ⟨_, (pss_cons (ps_if (PW.pt (pw_or (pt_not (pt_val (pe_callB (c_isi K) (by rfl) B.isinstance bt_isinstance (pa_cons (p_ixt K (pv 0) pe_int) (pa_cons (pe_bltn (v := .ty "tuple") (by rfl) B.tuple bt_tuple rfl) pa_nil))))) (pw_or1 (pt_not (pt_chain op_le op_le pe_int (pe_callB (c_len K) (by rfl) B.len bt_len (pa_cons (p_ixt K (pv 0) pe_int) pa_nil)) (pe_callB call_len_str (by rfl) B.len bt_len (pa_cons (pe_g (by rfl) B.gLetters) pa_nil))))))) (pss_one (ps_ret pe_bl)) pss_nil) (pss_cons (ps_if (pt_not (pt_val (pe_callB (c_all K) (by rfl) B.all bt_all (pa_cons (pe_lc (own := [("row", 1)]) rfl sc_are_rows.nd (p_tup K (pv 0)) (blkOk_by (by kernel_rfl)) (fun _ _ _ _ _ => (pg_name (i := 1) sc_are_rows.nd rfl (Or.inl rfl))) (fun _ _ _ _ _ => pts_nil) (fun _ _ _ _ _ => (C_is_tuple_of.call hr1 (by rfl) (pa_cons (pv 1) (pa_cons (pe_callB (c_len K) (by rfl) B.len bt_len (pa_cons (p_ixt K (pv 0) pe_int) pa_nil)) pa_nil))))) pa_nil)))) (pss_one (ps_ret pe_bl)) pss_nil) (pss_one (ps_ret (pe_callB (c_all K) (by rfl) B.all bt_all (pa_cons (pe_lc2 (own := [("row", 1), ("later", 2)]) (vs1 := [2]) rfl sc_are_rows.nd (p_tup K (pv 0)) (blkOk_by (by kernel_rfl)) (by decide) (fun _ _ _ _ _ => (pg_name (i := 1) sc_are_rows.nd rfl (Or.inl rfl))) (fun _ _ _ _ _ => pts_nil) (fun _ _ _ _ _ => (p_tup K (pv 1))) (fun _ _ _ _ _ => (pg_name (i := 2) sc_are_rows.nd rfl (Or.inl rfl))) (fun _ _ _ _ _ => pts_nil) (fun _ _ _ _ _ => (C_is_between.call hr (by rfl) (pa_cons (pv 2) (pa_cons pe_int (pa_cons (pe_op op_sub (pe_callB (c_len K) (by rfl) B.len bt_len (pa_cons (pv 0) pa_nil)) pe_int) pa_nil)))))) pa_nil)))))), ?_⟩
  have h0 : 0 < n := O.n1
  have hk1 := O.k1
  have hk3 := O.k3
  have h40 := O.n40
  obtain ⟨as, h1, k2, k3⟩ := id A1
  have row : ∀ i, i < n → ∃ a, as[i]? = some a ∧ (as.map V.ref)[i]? = some (.ref a) ∧ SqT K H a ((T.rows.getD i []).map nV) := by
    intro i hi
    have h2 : i < T.rows.length := by rw [O.rl]; exact hi
    have h3 : i < as.length := by omega
    refine ⟨as[i], List.getElem?_eq_getElem h3, by rw [List.getElem?_map, List.getElem?_eq_getElem h3]; rfl, ?_⟩
    have e2 : T.rows.getD i [] = T.rows[i] := by rw [List.getD_eq_getElem?_getD, List.getElem?_eq_getElem h2, Option.getD_some]
    rw [e2]
    exact k3 i _ _ (List.getElem?_eq_getElem h3) (List.getElem?_eq_getElem h2)
  have hasl : (as.map V.ref).length = n := by rw [List.length_map, k2, O.rl]
  obtain ⟨a, _, h3, h4⟩ := row 0 h0
  have h3' := atI_nat h3
  have hlen : ∀ i, i < n → ((T.rows.getD i []).map nV).length = k := fun i hi => by rw [List.length_map, O.rowlen hi]
  refine ⟨_, rfl, r, _, _, _, rfl, rfl, h1, h3', _, _, _, _, true, rfl, .ty "tuple", tyx_tup h4, kit_ty (by decide +kernel), true, rfl, iteF ?_⟩
  refine ⟨_, rfl, r, _, _, _, rfl, rfl, h1, h3', a, _, rfl, .inr h4, _, _, rfl, rfl, true, ?_, iteT ?_⟩
  · rw [hlen 0 h0]
    exact congrArg V.bl (decide_eq_true (by omega))
  refine ⟨_, rfl, by decide, _, _, rfl, rfl, true, ?_, iteF ?_⟩
  · rw [hlen 0 h0, abc_eq, tx_length]
    exact congrArg V.bl (decide_eq_true (by show ((k : Nat) : Int) ≤ ((3 : Nat) : Int); omega))
  -- all rows are tuples of the first one's length
  refine ⟨_, rfl, r, rfl, ⟨_, h1⟩, fun D nD => ?_⟩
  refine lc_map (walk_tup (K := K) (a := r) (xs := as.map V.ref)) nD (fun _ => .bl true) (by rw [hasl]; exact small1000 (by omega)) (fun H1 s1 => Same.tup s1 h1) ?_ ?_
  · rintro i x H1 H2 hi s1 ⟨rfl, hx⟩ R hR
    have hin : i < n := by rw [← hasl]; exact hi
    obtain ⟨b, _, g3, g4⟩ := row i hin
    rw [g3] at hx
    obtain rfl := Option.some.inj hx
    refine ⟨rfl, _, rfl, _, rfl, r, _, _, _, rfl, rfl, Same.tup s1 h1, h3', a, _, rfl, .inr (Same.tup s1 h4), b, _, ?_, Same.tup s1 g4, hR H2 (Same.refl _)⟩
    rw [hlen 0 h0, hlen i hin]
    rfl
  intro H1 s1 e1
  refine ⟨_, (List.range (as.map V.ref).length).map fun _ => true, rfl, SqL.of (by rw [e1, List.map_map]; rfl), true, ?_, iteF ?_⟩
  · refine congrArg V.bl (List.all_eq_true.mpr fun x hx => ?_)
    obtain ⟨_, _, rfl⟩ := List.mem_map.mp hx
    rfl
  -- all items are stands
  refine ⟨_, rfl, r, rfl, ⟨_, Same.tup s1 h1⟩, fun D nD => ?_⟩
  refine ⟨fun i m H2 => m + i = n ∧ Same H H2 ∧ ∃ z, H2 D = some (.lst (List.replicate z (.bl true))) ∧ z ≤ 3 * i, ⟨n, by omega, s1.trans (same_new nD _), 0, upd_same, by omega⟩, ?_⟩
  rintro i m H2 ⟨hm, s2, z, hz, hzl⟩
  by_cases hi : i < n
  · refine .inr ⟨⟨_, .ref (as[i]'(by rw [List.length_map] at hasl; omega)), Same.tup s2 h1, ?_⟩, fun H3 => Same H H3 ∧ ∃ z, H3 D = some (.lst (List.replicate z (.bl true))) ∧ z ≤ 3 * (i + 1), fun H3 h => ⟨m - 1, by omega, by omega, h⟩, ?_⟩
    · rw [List.getElem?_map, List.getElem?_eq_getElem (by rw [List.length_map] at hasl; omega)]
      rfl
    rintro x H3 ⟨rfl, hx⟩
    obtain ⟨b, _, g3, g4⟩ := row i hi
    have hx := hx _ (Same.tup s2 h1)
    rw [g3] at hx
    obtain rfl := Option.some.inj hx
    refine ⟨rfl, _, rfl, b, rfl, ⟨_, Same.tup s2 g4⟩, ?_⟩
    refine ⟨fun j m' H4 => m' + j = k ∧ Same H H4 ∧ ∃ z, H4 D = some (.lst (List.replicate z (.bl true))) ∧ z ≤ 3 * i + j, ⟨k, by omega, s2, z, hz, by omega⟩, ?_⟩
    rintro j m' H4 ⟨hm', s4, z4, hz4, hzl4⟩
    by_cases hj : j < k
    · have hj2 : j < ((T.rows.getD i []).map nV).length := by rw [hlen i hi]; exact hj
      refine .inr ⟨⟨_, ((T.rows.getD i []).map nV)[j], Same.tup s4 g4, List.getElem?_eq_getElem hj2⟩, fun H5 => Same H H5 ∧ ∃ z, H5 D = some (.lst (List.replicate z (.bl true))) ∧ z ≤ 3 * i + (j + 1), fun H5 h => ⟨m' - 1, by omega, by omega, h⟩, ?_⟩
      rintro x H5 ⟨rfl, hx⟩
      have hx := hx _ (Same.tup s4 g4)
      have hst := O.at_st hi hj
      rw [atI_nat (List.getElem?_eq_getElem hj2)] at hst
      rw [List.getElem?_eq_getElem hj2] at hx
      obtain rfl : x = nV (T.st i j) := (Option.some.inj hx).symm.trans (Option.some.inj hst)
      have hlt := O.st_lt hi hj
      refine ⟨rfl, _, rfl, _, rfl, r, _, rfl, .inr (Same.tup s4 h1), _, _, rfl, rfl, _, _, _, rfl, ?_⟩
      refine ⟨_, hz4, ?_, fun c o e => ?_, z4 + 1, ?_, by omega⟩
      · rw [List.length_replicate]
        exact small1000 (by omega)
      · rw [upd_ne (ne_of_none (s1 _ _ e) nD)]
        exact s4 _ _ e
      · have eb : (decide ((0 : Int) ≤ ((T.st i j : Nat) : Int)) && decide (((T.st i j : Nat) : Int) ≤ (((as.map V.ref).length : Nat) : Int) - 1)) = true := by
          rw [hasl, Bool.and_eq_true]
          exact ⟨decide_eq_true (by omega), decide_eq_true (by omega)⟩
        rw [upd_same, eb, List.replicate_succ']
    · exact .inl ⟨⟨_, Same.tup s4 g4, by rw [hlen i hi]; omega⟩, s4, z4, hz4, by omega⟩
  · refine .inl ⟨⟨_, Same.tup s2 h1, by rw [hasl]; omega⟩, ?_⟩
    refine ⟨D, List.replicate z true, rfl, SqL.of (by rw [hz, List.map_replicate]), ?_⟩
    have e : (List.replicate z true).all id = true := List.all_eq_true.mpr fun x hx => List.eq_of_mem_replicate hx
    rw [e]
    exact q H2 s2
end
end Own
namespace Own
open PySem PySem.Spec PyProof.Rows L2
section
variable {P : Program} {w : World} {K : PySem.W.Frag} {mg : Str → Option Value} {base : Heap}
abbrev s_is_table : Stmt := topS 23
theorem sc_is_table : FnScope ["table", "rows", "ends", "end"] ["table"] (defScope s_is_table) := ⟨rfl, rfl, rfl, by decide +kernel, rfl, by decide +kernel, by decide +kernel⟩
def sp_is_table (K : PySem.W.Frag) : Sp := fun vs H Q _ => ∃ (t r e : Addr) (T : Tab) (k n : Nat), vs = [.ref t] ∧ TabAt K H t r e T ∧ T.Ok k n ∧ ∀ H', Same H H' → Q (.bl true) H'
theorem ok_is_table {f : Addr} {fd : FuncData} (F : Fun K "is_table" "is_table" s_is_table f fd) (B : Bt mg) (C_is_tuple_of : Got P w K mg base CX0 1 "is_tuple_of" ["value", "many"] (sp_is_tuple_of K)) (C_are_rows : Got P w K mg base CX0 3 "_are_rows" ["rows"] (sp_are_rows K))
    (C_first_texts : GotD P w K mg base CX0 1 "first_texts" ["rows", "start"] [.int 0] (sp_first_texts K)) : FnOk P w K mg base CX0 4 f fd ["table"] (sp_is_table K) := by
  refine F.ok sc_is_table (fun vs H Q E h => ?_) (fun cdv A outer s H vs Q E hr h => ?_)
  · obtain ⟨t, r, e, T, k, n, rfl, _⟩ := h
    rfl
  obtain ⟨t, r, e, T, k, n, rfl, A1, O, q⟩ := h
  have hr1 : Room 1 _ := hr.mono (by decide)
  refine ⟨_, (pss_cons (ps_if (PW.pt (pw_or (pt_not (pt_val (C_is_tuple_of.call hr1 (by rfl) (pa_cons (pv 0) (pa_cons pe_int pa_nil))))) (pw_or (pt_not (pt_val (pe_callB (c_isi K) (by rfl) B.isinstance bt_isinstance (pa_cons (p_ixt K (pv 0) pe_int) (pa_cons (pe_bltn (v := .ty "tuple") (by rfl) B.tuple bt_tuple rfl) pa_nil))))) (pw_or1 (pt_not (pt_val (pe_callB (c_isi K) (by rfl) B.isinstance bt_isinstance (pa_cons (p_ixt K (pv 0) pe_int) (pa_cons (pe_bltn (v := .ty "tuple") (by rfl) B.tuple bt_tuple rfl) pa_nil))))))))) (pss_one (ps_ret pe_bl)) pss_nil) (pss_cons (ps_asg (pv 0) (g_tup K 2 (pgs_cons (pg_name (i := 1) sc_is_table.nd rfl (Or.inl rfl)) (pgs_cons (pg_name (i := 2) sc_is_table.nd rfl (Or.inl rfl)) pgs_nil)))) (pss_cons (ps_if (PW.pt (pw_or (pt_not (pt_chain op_le op_le pe_int (pe_callB (c_len K) (by rfl) B.len bt_len (pa_cons (pv 1) pa_nil)) (pe_g (by rfl) B.gStands))) (pw_or1 (pt_cmpR op_ne (pe_callB (c_len K) (by rfl) B.len bt_len (pa_cons (pv 2) pa_nil)) (pe_callB (c_len K) (by rfl) B.len bt_len (pa_cons (pv 1) pa_nil)) (nomark _))))) (pss_one (ps_ret pe_bl)) pss_nil) (pss_cons (ps_if (PW.pt (pw_or (pt_not (pt_val (pe_callB (c_all K) (by rfl) B.all bt_all (pa_cons (pe_lc (own := [("end", 3)]) rfl sc_is_table.nd (p_tup K (pv 2)) (blkOk_by (by kernel_rfl)) (fun _ _ _ _ _ => (pg_name (i := 3) sc_is_table.nd rfl (Or.inl rfl))) (fun _ _ _ _ _ => pts_nil) (fun _ _ _ _ _ => (pe_callB (c_isi K) (by rfl) B.isinstance bt_isinstance (pa_cons (pv 3) (pa_cons (pe_bltn (v := .ty "bool") (by rfl) B.bool bt_bool rfl) pa_nil))))) pa_nil)))) (pw_or1 (pt_not (pt_val (C_are_rows.call hr (by rfl) (pa_cons (pv 1) pa_nil))))))) (pss_one (ps_ret pe_bl)) pss_nil) (pss_one (ps_ret (pe_cmpR op_eq (pe_callB call_lenD (by rfl) B.len bt_len (pa_cons (C_first_texts.call hr1 (by rfl) (pa_cons (pv 1) pa_nil)) pa_nil)) (pe_callB (c_len K) (by rfl) B.len bt_len (pa_cons (pv 1) pa_nil)) (nomark _)))))))), ?_⟩
  have hn1 := O.n1
  have h40 := O.n40
  refine ⟨_, rfl, t, _, rfl, A1.top, true, rfl, iteF ?_⟩
  refine ⟨_, rfl, t, _, _, _, rfl, rfl, A1.top, rfl, ?_⟩
  obtain ⟨xs, hx, hxl⟩ := A1.rows.len
  refine ⟨_, _, _, _, true, rfl, .ty "tuple", tyx_tup hx, kit_ty (by decide +kernel), true, rfl, iteF ?_⟩
  refine ⟨_, rfl, t, _, _, _, rfl, rfl, A1.top, rfl, _, _, _, _, true, rfl, .ty "tuple", tyx_tup A1.ends, kit_ty (by decide +kernel), true, rfl, iteF ?_⟩
  refine ⟨_, rfl, t, _, rfl, A1.top, rfl, _, _, rfl, _, _, rfl, rfl, ?_⟩
  have hel : (T.ends.map V.bl).length = n := by rw [List.length_map, O.el]
  have hrl : xs.length = n := by rw [hxl, O.rl]
  refine ⟨_, rfl, r, _, rfl, .inr hx, _, _, rfl, rfl, true, ?_, iteT ?_⟩
  · rw [hrl]
    exact congrArg V.bl (decide_eq_true (by omega))
  refine ⟨_, _, rfl, rfl, true, ?_, iteF ?_⟩
  · rw [hrl]
    exact congrArg V.bl (decide_eq_true (by omega))
  refine ⟨_, rfl, e, _, rfl, .inr A1.ends, _, rfl, r, _, rfl, .inr hx, rfl, false, ?_, iteF ?_⟩
  · rw [hel, hrl, decide_eq_true rfl]
    rfl
  -- all ends are booleans
  refine ⟨_, rfl, e, rfl, ⟨_, A1.ends⟩, fun D nD => ?_⟩
  refine lc_map (walk_tup (K := K) (a := e) (xs := T.ends.map V.bl)) nD (fun _ => .bl true) (by rw [hel]; exact small1000 (by omega)) (fun H1 s1 => Same.tup s1 A1.ends) ?_ ?_
  · rintro i x H1 H2 hi s1 ⟨rfl, hx⟩ R hR
    rw [List.getElem?_map] at hx
    cases e : T.ends[i]? with
    | none =>
      rw [e] at hx
      cases hx
    | some b =>
      rw [e] at hx
      obtain rfl : V.bl b = x := Option.some.inj hx
      exact ⟨rfl, _, rfl, _, _, _, _, true, rfl, .ty "bool", .base (.bl b), kit_ty (by decide +kernel), hR H2 (Same.refl _)⟩
  intro H1 s1 e1
  refine ⟨_, (List.range (T.ends.map V.bl).length).map fun _ => true, rfl, SqL.of (by rw [e1, List.map_map]; rfl), true, ?_, iteF ?_⟩
  · refine congrArg V.bl (List.all_eq_true.mpr fun x hx => ?_)
    obtain ⟨_, _, rfl⟩ := List.mem_map.mp hx
    rfl
  refine ⟨_, rfl, r, T, k, n, rfl, A1.rows.same s1, O, fun H2 s2 => ⟨true, rfl, iteF ?_⟩⟩
  have s12 := s1.trans s2
  refine ⟨_, rfl, r, T, k, n, rfl, A1.rows.same s12, O, fun d H3 s3 nd hd => ?_⟩
  refine ⟨d, _, rfl, hd, _, rfl, r, _, rfl, .inr (Same.tup (s12.trans s3) hx), rfl, ?_⟩
  rw [kF_length, fF_full O, hrl, decide_eq_true rfl]
  exact q H3 (s12.trans s3)
abbrev s_check_table : Stmt := topS 21
theorem sc_check_table : FnScope ["table"] ["table"] (defScope s_check_table) := ⟨rfl, rfl, rfl, by decide +kernel, rfl, by decide +kernel, by decide +kernel⟩
def sp_check_table (K : PySem.W.Frag) : Sp := fun vs H Q _ => ∃ (t r e : Addr) (T : Tab) (k n : Nat), vs = [.ref t] ∧ TabAt K H t r e T ∧ T.Ok k n ∧ ∀ H', Same H H' → Q .non H'
theorem ok_check_table {f : Addr} {fd : FuncData} (F : Fun K "check_table" "check_table" s_check_table f fd) (B : Bt mg) (C_is_table : Got P w K mg base CX0 4 "is_table" ["table"] (sp_is_table K)) : FnOk P w K mg base CX0 5 f fd ["table"] (sp_check_table K) := by
  refine F.ok sc_check_table (fun vs H Q E h => ?_) (fun cdv A outer s H vs Q E hr h => ?_)
  · obtain ⟨t, r, e, T, k, n, rfl, _⟩ := h
    rfl
  obtain ⟨t, r, e, T, k, n, rfl, A1, O, q⟩ := h
  refine ⟨_, (pss_one (ps_if (pt_not (pt_val (C_is_table.call hr (by rfl) (pa_cons (pv 0) pa_nil)))) (pss_one ps_never) pss_nil)), ?_⟩
  exact ⟨_, rfl, t, r, e, T, k, n, rfl, A1, O, fun H' s' => ⟨true, rfl, iteF (q H' s')⟩⟩
end
end Own
namespace Own
open PySem PySem.Spec PyProof.Rows L2
theorem bit_map {n : Nat} (f : Nat → Bool) {s : Nat} (hs : s < n) : bit ((List.range n).map f) s = f s := by
  unfold bit
  rw [List.getD_eq_getElem?_getD, List.getElem?_map, List.getElem?_range hs]
  rfl
theorem at_bit {L : List Bool} {n s : Nat} (hl : L.length = n) (hs : s < n) : atI (L.map V.bl) (s : Nat) = some (.bl (bit L s)) := by
  have h2 : s < L.length := by omega
  refine atI_nat ?_
  rw [List.getElem?_map, List.getElem?_eq_getElem h2]
  unfold bit
  rw [List.getD_eq_getElem?_getD, List.getElem?_eq_getElem h2]
  rfl
theorem rep_flat {α : Type} (n : Nat) (x : α) : (List.replicate n [x]).flatten = List.replicate n x := by
  induction n with
  | zero => rfl
  | succ n ih =>
    rw [List.replicate_succ, List.flatten_cons, ih, List.replicate_succ]
    rfl
theorem RowsAt.opened {K : PySem.W.Frag} {H : Hp} {r : Addr} {T : Tab} {k n : Nat} (A1 : RowsAt K H r T.rows) (O : T.Ok k n) : ∃ as : List Addr, SqT K H r (as.map V.ref) ∧ (as.map V.ref).length = n ∧
    ∀ i, i < n → ∃ a, (as.map V.ref)[i]? = some (.ref a) ∧ SqT K H a ((T.rows.getD i []).map nV) := by
  obtain ⟨as, h1, k2, k3⟩ := A1
  refine ⟨as, h1, by rw [List.length_map, k2, O.rl], fun i hi => ?_⟩
  have h2 : i < T.rows.length := by rw [O.rl]; exact hi
  have h3 : i < as.length := by omega
  refine ⟨as[i], by rw [List.getElem?_map, List.getElem?_eq_getElem h3]; rfl, ?_⟩
  have e2 : T.rows.getD i [] = T.rows[i] := by rw [List.getD_eq_getElem?_getD, List.getElem?_eq_getElem h2, Option.getD_some]
  rw [e2]
  exact k3 i _ _ (List.getElem?_eq_getElem h3) (List.getElem?_eq_getElem h2)
section
variable {P : Program} {w : World} {K : PySem.W.Frag} {mg : Str → Option Value} {base : Heap}
abbrev s_leading_to : Stmt := topS 17
theorem sc_leading_to : FnScope ["rows", "marked", "leads", "grows", "before", "row", "later"] ["rows", "marked"] (defScope s_leading_to) := ⟨rfl, rfl, rfl, by decide +kernel, rfl, by decide +kernel, by decide +kernel⟩
def sp_leading_to (K : PySem.W.Frag) : Sp := fun vs H Q _ => ∃ (r e : Addr) (T : Tab) (k n : Nat), vs = [.ref r, .ref e] ∧ RowsAt K H r T.rows ∧ SqT K H e (T.ends.map V.bl) ∧ T.Ok k n ∧
  ∀ (l : Addr) (H' : Hp) (L : List Bool), Same H H' → H l = none → H' l = some (.lst (L.map V.bl)) → L.length = n → (∀ s, s < n → (bit L s = true ↔ Leads T k s)) → Q (.ref l) H'
theorem ok_leading_to {f : Addr} {fd : FuncData} (F : Fun K "leading_to" "leading_to" s_leading_to f fd) (B : Bt mg) : FnOk P w K mg base CX0 1 f fd ["rows", "marked"] (sp_leading_to K) := by
  refine F.ok sc_leading_to (fun vs H Q E h => ?_) (fun cdv A outer s H vs Q E hr h => ?_)
  · obtain ⟨r, e, T, k, n, rfl, _⟩ := h
    rfl
  obtain ⟨r, e, T, k, n, rfl, A1, A2, O, q⟩ := h
  have hu64 : ∀ X : Cx, True := fun _ => trivial
  refine ⟨_, (pss_cons (ps_set (i := 2) sc_leading_to.nd rfl (Or.inl rfl) (pe_op op_rep (pe_lst (pa_cons pe_bl pa_nil)) (pe_callB (c_len K) (by rfl) B.len bt_len (pa_cons (pv 0) pa_nil)))) (pss_cons (ps_set (i := 3) sc_leading_to.nd rfl (Or.inl rfl) pe_bl) (pss_cons (ps_while PassesOwn.never (p_tru K (pv 3)) (pss_cons (ps_set (i := 4) sc_leading_to.nd rfl (Or.inr rfl) (pe_callTy (c_list K) (by rfl) B.list bt_list (pa_cons (pv 2) pa_nil))) (pss_cons (ps_setLc (i := 2) (own := [("row", 5)]) rfl sc_leading_to.nd rfl rfl (sw_true rfl rfl rfl (by decide +kernel)) (p_tup K (pv 0)) (blkOk_by (by kernel_rfl)) (fun _ _ _ _ _ => (pg_name (i := 5) sc_leading_to.nd rfl (Or.inl rfl))) (fun _ _ _ _ _ => pts_nil) (fun _ _ _ _ _ => (pe_callB (c_any K) (by rfl) B.any bt_any (pa_cons (pe_lc (own := [("later", 6)]) rfl sc_leading_to.nd (p_tup K (pv 5)) (blkOk_by (by kernel_rfl)) (fun _ _ _ _ _ => (pg_name (i := 6) sc_leading_to.nd rfl (Or.inl rfl))) (fun _ _ _ _ _ => pts_nil) (fun _ _ _ _ _ => (pe_or (p_ixt K (pv 1) (pv 6)) (pe_one (p_ixl K (pv 4) (pv 6)))))) pa_nil)))) (pss_one (ps_set (i := 3) sc_leading_to.nd rfl (Or.inl rfl) (pe_cmpR (op_neD hr.units) (pv 2) (pv 4) (nomark _))))))) (pss_one (ps_ret (pv 2)))))), ?_⟩
  have hn1 := O.n1
  have h40 := O.n40
  obtain ⟨as, h1, hasl, row⟩ := A1.opened O
  refine ⟨by decide, fun p0 np0 => ?_⟩
  have s0 := same_new np0 (.lst [.bl false])
  refine ⟨_, rfl, r, _, rfl, .inr (Same.tup s0 h1), p0, _, _, rfl, rfl, upd_same, by rw [hasl]; omega, by rw [hasl]; omega, ?_, fun la nla => ?_⟩
  · rw [hasl]
    show 1 * n ≤ sizeLine
    exact Nat.le_of_lt (small1000 (by omega))
  have s1 := s0.trans (same_new nla (.lst (List.replicate (((as.map V.ref).length : Nat) : Int).toNat [V.bl false]).flatten))
  have eL0 : (List.replicate (((as.map V.ref).length : Nat) : Int).toNat [V.bl false]).flatten = (List.replicate n false).map V.bl := by
    rw [hasl, Int.toNat_natCast, List.map_replicate]
    exact rep_flat n _
  have bit0 : ∀ s, bit (List.replicate n false) s = false := by
    intro s
    unfold bit
    rw [List.getD_eq_getElem?_getD, List.getElem?_replicate]
    split <;> rfl
  refine ⟨fun m σ H2 => ∃ (L : List Bool) (g : Bool) (la : Addr) (v4 : Option V), m = 2 * (n - cntB L) + (if g then 1 else 0) ∧ L.length = n ∧ (∀ s, s < n → bit L s = true → Leads T k s) ∧ LeB L (stepL T L) ∧ (g = false → L = stepL T L) ∧
      σ = [some (.ref r), some (.ref e), some (.ref la), some (.bl g), v4, none, none] ∧ Same H H2 ∧ H2 la = some (.lst (L.map V.bl)) ∧ H la = none,
    ⟨_, List.replicate n false, true, la, none, rfl, List.length_replicate, fun s _ z => (by rw [bit0] at z; cases z), fun s z => (by rw [bit0] at z; cases z), fun z => (by cases z), rfl, s1, by rw [← eL0]; exact upd_same, s0.free nla⟩, ?_⟩
  rintro m σ H2 ⟨L, g, la, v4, hm, hL, snd, le, hg, rfl, s2, hla, nla0⟩
  refine ⟨_, rfl, g, rfl, ?_⟩
  cases g with
  | false =>
    refine iteF ⟨_, rfl, q la H2 L s2 nla0 hla hL fun s hs => ⟨snd s hs, ?_⟩⟩
    rintro ⟨u, hne, hu, ha⟩
    exact step_fix O (hg rfl) u s hs hne hu ha
  | true =>
    refine iteT ?_
    refine ⟨_, fun _ _ h => h, ?_⟩
    -- before = list(leads)
    refine ⟨_, rfl, la, _, rfl, .inl (SqL.of hla), fun lb nlb => ?_⟩
    have s3 := s2.trans (same_new nlb (.lst (L.map V.bl)))
    refine ⟨_, rfl, r, rfl, ⟨_, Same.tup s3 h1⟩, fun D nD => ?_⟩
    have hb3 : (upd H2 lb (.lst (L.map V.bl))) lb = some (.lst (L.map V.bl)) := upd_same
    refine lc_map (walk_tup (K := K) (a := r) (xs := as.map V.ref)) nD (fun i => .bl (bit (stepL T L) i)) (by rw [hasl]; exact small1000 (by omega)) (fun H1 s4 => Same.tup (s3.trans s4) h1) ?_ ?_
    · rintro i x H3 H4 hi s4 ⟨rfl, hx⟩ R hR
      have hin : i < n := by rw [← hasl]; exact hi
      obtain ⟨a, e1, e2⟩ := row i hin
      rw [e1] at hx
      obtain rfl := Option.some.inj hx
      have s34 := s3.trans s4
      have hrl : ((T.rows.getD i []).map nV).length = k := by rw [List.length_map, O.rowlen hin]
      have hk3 := O.k3
      refine ⟨rfl, _, rfl, a, rfl, ⟨_, Same.tup s34 e2⟩, fun D2 nD2 => ?_⟩
      refine lc_map (walk_tup (K := K) (a := a) (xs := (T.rows.getD i []).map nV)) nD2 (fun l => .bl (T.fin (T.st i l) || bit L (T.st i l))) (by rw [hrl]; exact small1000 (by omega)) (fun H5 s5 => Same.tup (s34.trans s5) e2) ?_ ?_
      · rintro l x H5 H6 hl s5 ⟨rfl, hx⟩ R2 hR2
        have hlk : l < k := by omega
        have hst := O.at_st hin hlk
        rw [atI_nat (List.getElem?_eq_getElem hl)] at hst
        rw [List.getElem?_eq_getElem hl] at hx
        obtain rfl : x = nV (T.st i l) := (Option.some.inj hx).symm.trans (Option.some.inj hst)
        have hlt := O.st_lt hin hlk
        refine ⟨rfl, _, rfl, _, rfl, e, _, _, _, rfl, rfl, Same.tup (s34.trans s5) A2, O.at_fin hlt, T.fin (T.st i l), rfl, ?_⟩
        have z := hR2 H6 (Same.refl _)
        cases hf : T.fin (T.st i l) with
        | true =>
          rw [hf] at z
          exact iteT z
        | false =>
          rw [hf, Bool.false_or] at z
          exact iteF ⟨_, rfl, _, rfl, lb, _, _, _, rfl, rfl, SqL.of (s5 _ _ (s4 _ _ hb3)), at_bit hL hlt, z⟩
      · intro H5 s5 e5
        refine ⟨D2, (List.range ((T.rows.getD i []).map nV).length).map fun l => (T.fin (T.st i l) || bit L (T.st i l)), rfl, SqL.of (by rw [e5, List.map_map]; rfl), ?_⟩
        have eb : ((List.range ((T.rows.getD i []).map nV).length).map fun l => (T.fin (T.st i l) || bit L (T.st i l))).any id = bit (stepL T L) i := by
          rw [Bool.eq_iff_iff, bit_step O L hin, List.any_eq_true, hrl]
          constructor
          · rintro ⟨x, hx, hxt⟩
            obtain ⟨l, hl, rfl⟩ := List.mem_map.mp hx
            exact ⟨l, List.mem_range.mp hl, by simpa using hxt⟩
          · rintro ⟨l, hl, z⟩
            exact ⟨_, List.mem_map.mpr ⟨l, List.mem_range.mpr hl, rfl⟩, by simpa using z⟩
        rw [eb]
        exact hR H5 s5
    · intro H3 s4 e3
      have s34 := s3.trans s4
      have eM : (List.range (as.map V.ref).length).map (fun i => V.bl (bit (stepL T L) i)) = (stepL T L).map V.bl := by
        rw [hasl, ← stepL_length O L]
        refine map_range_get (stepL T L) _ V.bl fun i x hx => ?_
        unfold bit
        rw [List.getD_eq_getElem?_getD, hx]
        rfl
      rw [eM] at e3
      have hb4 := s4 _ _ hb3
      refine ⟨_, rfl, _, rfl, _, _, dp_dBs (SqL.of e3), dp_dBs (SqL.of hb4), shaped_dBs _, shaped_dBs _, ?_⟩
      rw [eqv_dBs]
      have hlen := stepL_length O L
      have hle2 := step_mono O le
      obtain ⟨c1, c2⟩ := LeB.cnt le (by rw [hL, hlen])
      have c3 := cntB_le (stepL T L)
      refine ⟨2 * (n - cntB (stepL T L)) + (if !decide (stepL T L = L) then 1 else 0), ?_, stepL T L, !decide (stepL T L = L), D, _, rfl, hlen, fun s hs z => step_sound O snd hs z, hle2, ?_, rfl, s34, e3, s3.free nD⟩
      · rw [hm]
        by_cases he : stepL T L = L
        · rw [he]
          simp
        · have c4 := c2 fun z => he z.symm
          simp [he]
          omega
      · intro z
        have z : stepL T L = L := by simpa using z
        rw [z, z]
end
end Own
namespace Own
open PySem PySem.Spec PyProof.Rows L2
/-! ### dicts of counts -/
def kD (D : Cs) : List (Key × V) := D.map fun p => (kK p.1, nV p.2)
theorem kD_val {D : Cs} {t : Nat} : valV (kD D) (kK t) = if t ∈ keys D then some (nV (val D t)) else none := by
  induction D with
  | nil => rfl
  | cons p r ih =>
    obtain ⟨a, b⟩ := p
    show valV ((kK a, nV b) :: kD r) (kK t) = _
    rw [val]
    by_cases e : a = t
    · subst e
      rw [valV_pos rfl, if_pos rfl, if_pos (show a ∈ keys ((a, b) :: r) from List.mem_cons_self)]
    · rw [valV_neg (fun z => e (kK_inj z)), ih, if_neg e]
      by_cases h : t ∈ keys r
      · rw [if_pos h, if_pos (show t ∈ keys ((a, b) :: r) from List.mem_cons_of_mem _ h)]
      · rw [if_neg h, if_neg (show ¬ t ∈ keys ((a, b) :: r) from fun z => (List.mem_cons.mp z).elim (fun q => e q.symm) h)]
theorem kD_put {D : Cs} (nd : (keys D).Nodup) (t v : Nat) : putK (kD D) (kK t) (nV v) = kD (putD D t v) := by
  by_cases h : t ∈ keys D
  · have hv : valV (kD D) (kK t) = some (nV (val D t)) := by rw [kD_val, if_pos h]
    unfold putK
    rw [valV_any, hv, if_pos (show (some (nV (val D t))).isSome = true from rfl)]
    clear hv
    induction D with
    | nil => simp [keys] at h
    | cons p r ih =>
      obtain ⟨a, b⟩ := p
      obtain ⟨n1, n2⟩ := List.nodup_cons.mp (show (a :: keys r).Nodup from nd)
      show (if kK a = kK t then (kK a, nV v) else (kK a, nV b)) :: (kD r).map _ = kD (if a = t then (a, v) :: r else (a, b) :: putD r t v)
      by_cases e : a = t
      · subst e
        rw [if_pos rfl, if_pos rfl]
        show _ = (kK a, nV v) :: kD r
        congr 1
        have : ∀ q, q ∈ kD r → (if q.1 = kK a then (q.1, nV v) else q) = q := by
          intro q hq
          obtain ⟨z, hz, rfl⟩ := List.mem_map.mp hq
          rw [if_neg (fun e => n1 (by rw [← kK_inj e]; exact List.mem_map.mpr ⟨z, hz, rfl⟩))]
        rw [List.map_congr_left this]
        exact List.map_id _
      · rw [if_neg (fun z => e (kK_inj z)), if_neg e]
        show _ = (kK a, nV b) :: kD (putD r t v)
        congr 1
        exact ih n2 ((List.mem_cons.mp h).resolve_left fun q => e q.symm)
  · have hv : valV (kD D) (kK t) = none := by rw [kD_val, if_neg h]
    rw [putK_new _ hv]
    clear hv nd
    induction D with
    | nil => rfl
    | cons p r ih =>
      obtain ⟨a, b⟩ := p
      have e : a ≠ t := fun z => h (z ▸ List.mem_cons_self)
      show (kK a, nV b) :: (kD r ++ _) = kD (if a = t then (a, v) :: r else (a, b) :: putD r t v)
      rw [if_neg e]
      show _ = (kK a, nV b) :: kD (putD r t v)
      rw [ih fun z => h (List.mem_cons_of_mem _ z)]
theorem kD_length (D : Cs) : (kD D).length = D.length := List.length_map _
/-- counts, told by a function on what is useful -/
structure LevF (n : Nat) (U : Nat → Bool) (f : Nat → Nat) (D : Cs) : Prop where
  nd : (keys D).Nodup
  ok : ∀ s, s ∈ keys D → s < n ∧ U s = true ∧ 0 < val D s
  vl : ∀ s, s < n → U s = true → val D s = f s
theorem LevF.len {n : Nat} {U : Nat → Bool} {f : Nat → Nat} {D : Cs} (V : LevF n U f D) : D.length ≤ n := by
  have h := nodup_lt_length n V.nd fun x hx => (V.ok x hx).1
  unfold keys at h
  rwa [List.length_map] at h
theorem Lev.toF {T : Tab} {k n : Nat} {U : Nat → Bool} {X : List Word} {D : Cs} (V : Lev T k n U X D) : LevF n U (cX T X) D := ⟨V.nd, V.ok, V.vl⟩
theorem LevF.add {n : Nat} {U : Nat → Bool} {f : Nat → Nat} {D : Cs} (V : LevF n U f D) {t c : Nat} (ht : t < n) (hu : U t = true) (hc : 0 < c) : LevF n U (fun x => f x + if t = x then c else 0) (putD D t (val D t + c)) := by
  refine ⟨nd_put V.nd _ _, fun s hs => ?_, fun s hs hsu => ?_⟩
  · rw [val_put]
    by_cases e : t = s
    · subst e
      rw [if_pos rfl]
      exact ⟨ht, hu, by omega⟩
    · rw [if_neg e]
      rcases mem_put hs with h | h
      · exact V.ok s h
      · exact absurd h.symm e
  · rw [val_put]
    by_cases e : t = s
    · subst e
      rw [if_pos rfl, if_pos rfl, V.vl t hs hsu]
    · rw [if_neg e, if_neg e, V.vl s hs hsu, Nat.add_zero]
theorem LevF.congr {n : Nat} {U : Nat → Bool} {f g : Nat → Nat} {D : Cs} (V : LevF n U f D) (h : ∀ s, s < n → U s = true → f s = g s) : LevF n U g D := ⟨V.nd, V.ok, fun s hs hu => (V.vl s hs hu).trans (h s hs hu)⟩
structure UseL (T : Tab) (k n : Nat) (L : List Bool) : Prop where
  len : L.length = n
  iff : ∀ s, s < n → (bit L s = true ↔ Useful T k s)
/-! ### what stays where one object changes -/
def But (d : Addr) (H H' : Hp) : Prop := ∀ b o, b ≠ d → H b = some o → H' b = some o
section
variable {K : PySem.W.Frag} {H H' : Hp} {d a r t e : Addr} {T : Tab} {o : HO} {xs : List V}
theorem But.tup (s : But d H H') (hd : H d = some o) (h1 : ∀ ys, o ≠ .tup ys) (h2 : ∀ ob u, o ≠ .frz ob u) (h : SqT K H a xs) : SqT K H' a xs := by
  rcases h with (h | ⟨ob, h⟩) | h
  · exact .inl (.inl (s _ _ (ne_of h hd fun z => h1 _ z.symm) h))
  · exact .inl (.inr ⟨ob, s _ _ (ne_of h hd fun z => h2 _ _ z.symm) h⟩)
  · exact .inr h
theorem But.lst (s : But d H H') (hd : H d = some o) (h1 : ∀ ys, o ≠ .lst ys) (h2 : ∀ ob u, o ≠ .frz ob u) (h : SqL K H a xs) : SqL K H' a xs := by
  rcases h with (h | ⟨ob, h⟩) | h
  · exact .inl (.inl (s _ _ (ne_of h hd fun z => h1 _ z.symm) h))
  · exact .inl (.inr ⟨ob, s _ _ (ne_of h hd fun z => h2 _ _ z.symm) h⟩)
  · exact .inr h
theorem But.rows (s : But d H H') (hd : H d = some o) (h1 : ∀ ys, o ≠ .tup ys) (h2 : ∀ ob u, o ≠ .frz ob u) {rows : List (List Nat)} (h : RowsAt K H r rows) : RowsAt K H' r rows := by
  obtain ⟨as, k1, k2, k3⟩ := h
  exact ⟨as, s.tup hd h1 h2 k1, k2, fun i a row ha hr => s.tup hd h1 h2 (k3 i a row ha hr)⟩
theorem But.tab (s : But d H H') (hd : H d = some o) (h1 : ∀ ys, o ≠ .tup ys) (h2 : ∀ ob u, o ≠ .frz ob u) (h : TabAt K H t r e T) : TabAt K H' t r e T := ⟨s.tup hd h1 h2 h.top, s.rows hd h1 h2 h.rows, s.tup hd h1 h2 h.ends⟩
end
section
variable {P : Program} {w : World} {K : PySem.W.Frag} {mg : Str → Option Value} {base : Heap}
abbrev s_useful : Stmt := topS 34
theorem sc_useful : FnScope ["table", "rows", "ends", "leads", "stand"] ["table"] (defScope s_useful) := ⟨rfl, rfl, rfl, by decide +kernel, rfl, by decide +kernel, by decide +kernel⟩
def sp_useful (K : PySem.W.Frag) : Sp := fun vs H Q _ => ∃ (t r e : Addr) (T : Tab) (k n : Nat), vs = [.ref t] ∧ TabAt K H t r e T ∧ T.Ok k n ∧ ∀ (l : Addr) (H' : Hp) (L : List Bool), Same H H' → H l = none → H' l = some (.lst (L.map V.bl)) → UseL T k n L → Q (.ref l) H'
theorem ok_useful {f : Addr} {fd : FuncData} (F : Fun K "_useful" "_useful" s_useful f fd) (B : Bt mg) (C_leading_to : Got P w K mg base CX0 1 "leading_to" ["rows", "marked"] (sp_leading_to K)) : FnOk P w K mg base CX0 2 f fd ["table"] (sp_useful K) := by
  refine F.ok sc_useful (fun vs H Q E h => ?_) (fun cdv A outer s H vs Q E hr h => ?_)
  · obtain ⟨t, r, e, T, k, n, rfl, _⟩ := h
    rfl
  obtain ⟨t, r, e, T, k, n, rfl, A1, O, q⟩ := h
  refine ⟨_, (pss_cons (ps_asg (pv 0) (g_tup K 2 (pgs_cons (pg_name (i := 1) sc_useful.nd rfl (Or.inl rfl)) (pgs_cons (pg_name (i := 2) sc_useful.nd rfl (Or.inr rfl)) pgs_nil)))) (pss_cons (ps_set (i := 3) sc_useful.nd rfl (Or.inr rfl) (C_leading_to.call hr (by rfl) (pa_cons (pv 1) (pa_cons (pv 2) pa_nil)))) (pss_one (ps_ret (pe_lc (own := [("stand", 4)]) rfl sc_useful.nd (pi_range1 (by rfl) B.range (pa_cons (pe_callB (c_len K) (by rfl) B.len bt_len (pa_cons (pv 1) pa_nil)) pa_nil)) (blkOk_by (by kernel_rfl)) (fun _ _ _ _ _ => (pg_name (i := 4) sc_useful.nd rfl (Or.inl rfl))) (fun _ _ _ _ _ => pts_nil) (fun _ _ _ _ _ => (pe_or (p_ixt K (pv 2) (pv 4)) (pe_one (p_ixl K (pv 3) (pv 4)))))))))), ?_⟩
  have h40 := O.n40
  obtain ⟨xs, hx, hxl⟩ := A1.rows.len
  have hrl : xs.length = n := by rw [hxl, O.rl]
  refine ⟨_, rfl, t, _, rfl, A1.top, rfl, _, _, rfl, _, _, rfl, rfl, ?_⟩
  refine ⟨_, rfl, _, rfl, r, e, T, k, n, rfl, A1.rows, A1.ends, O, fun l H1 L s1 nl hl hL hiff => ?_⟩
  refine ⟨_, rfl, r, _, rfl, .inr (Same.tup s1 hx), _, rfl, by rw [hrl]; omega, by rw [hrl]; omega, fun D nD => ?_⟩
  refine lc_map (walk_range (lo := 0)) nD (fun i => .bl (T.fin i || bit L i)) (by rw [hrl]; exact small1000 (by omega)) (fun _ _ => trivial) ?_ ?_
  · rintro i x H2 H3 hi s2 ⟨rfl, rfl⟩ R hR
    have hin : i < n := by rw [hrl] at hi; omega
    have e0 : V.int (0 + (i : Nat)) = nV i := congrArg V.int (Int.zero_add _)
    show gName 4 (V.int (0 + (i : Nat))) _ _ _
    rw [e0]
    refine ⟨rfl, _, rfl, _, rfl, e, _, _, _, rfl, rfl, Same.tup (s1.trans s2) A1.ends, O.at_fin hin, T.fin i, rfl, ?_⟩
    have z := hR H3 (Same.refl _)
    cases hf : T.fin i with
    | true =>
      rw [hf] at z
      exact iteT z
    | false =>
      rw [hf, Bool.false_or] at z
      exact iteF ⟨_, rfl, _, rfl, l, _, _, _, rfl, rfl, SqL.of (s2 _ _ hl), at_bit hL hin, z⟩
  · intro H2 s2 e2
    refine q D H2 ((List.range n).map fun i => (T.fin i || bit L i)) (s1.trans s2) (s1.free nD) ?_ ⟨by rw [List.length_map, List.length_range], fun s hs => ?_⟩
    · rw [e2, hrl, Int.toNat_natCast, List.map_map]
      rfl
    · rw [bit_map _ hs, useful_iff, Bool.or_eq_true, hiff s hs]
abbrev s_first_level : Stmt := topS 35
theorem sc_first_level : FnScope ["useful"] ["useful"] (defScope s_first_level) := ⟨rfl, rfl, rfl, by decide +kernel, rfl, by decide +kernel, by decide +kernel⟩
def sp_first_level (K : PySem.W.Frag) : Sp := fun vs H Q _ => ∃ (ul : Addr) (T : Tab) (k n : Nat) (L : List Bool), vs = [.ref ul] ∧ T.Ok k n ∧ SqL K H ul (L.map V.bl) ∧ UseL T k n L ∧
  ∀ (d : Addr) (H' : Hp) (D : Cs), Same H H' → H d = none → H' d = some (.dK (kD D)) → Lev T k n (bit L) [[]] D → Q (.ref d) H'
theorem ok_first_level {f : Addr} {fd : FuncData} (F : Fun K "_first_level" "_first_level" s_first_level f fd) (B : Bt mg) : FnOk P w K mg base CX0 1 f fd ["useful"] (sp_first_level K) := by
  refine F.ok sc_first_level (fun vs H Q E h => ?_) (fun cdv A outer s H vs Q E hr h => ?_)
  · obtain ⟨ul, T, k, n, L, rfl, _⟩ := h
    rfl
  obtain ⟨ul, T, k, n, L, rfl, O, hul, UL, q⟩ := h
  refine ⟨_, (pss_one (ps_ret (pe_ifExp (pt_val (p_ixl K (pv 0) pe_int)) (pe_disp (pps_cons pe_int pe_int pps_nil) (by rfl) (by rfl) (fun z => by cases z) (by decide)) pe_dnewK))), ?_⟩
  refine ⟨_, rfl, ul, _, _, _, rfl, rfl, hul, at_bit (s := 0) UL.len O.n1, bit L 0, rfl, ?_⟩
  cases hb : bit L 0 with
  | true =>
    refine iteT fun d nd => ?_
    refine ⟨upd_same, [((Sum.inl (0 : Int) : Key), V.int 1)], rfl, by decide, ?_⟩
    rw [upd_upd]
    exact q d _ [(0, 1)] (same_new nd _) nd upd_same (Lev.first O hb)
  | false =>
    refine iteF fun d nd => ?_
    exact q d _ [] (same_new nd _) nd upd_same (Lev.first0 hb)
end
end Own
namespace Own
open PySem PySem.Spec PyProof.Rows L2
theorem sumD_take {D : Cs} {i s c : Nat} (e : D[i]? = some (s, c)) (f : Nat → Nat) : sumD (D.take (i + 1)) f = sumD (D.take i) f + c * f s := by
  unfold sumD
  rw [List.take_add_one, e, List.map_append, List.sum_append]
  simp
theorem UseL.back {T : Tab} {k n : Nat} {L : List Bool} (UL : UseL T k n L) (O : T.Ok k n) : ∀ s l, s < n → l < k → bit L (T.st s l) = true → bit L s = true := by
  intro s l hs hl h
  obtain ⟨u, hu, ha⟩ := (UL.iff _ (O.st_lt hs hl)).mp h
  refine (UL.iff s hs).mpr ⟨l :: u, fun x hx => ?_, ha⟩
  rcases List.mem_cons.mp hx with rfl | hx
  · exact hl
  · exact hu x hx
theorem UseL.fin {T : Tab} {k n : Nat} {L : List Bool} (UL : UseL T k n L) : ∀ s, s < n → T.fin s = true → bit L s = true := fun s hs h => (UL.iff s hs).mpr ⟨[], fun l h => by simp at h, h⟩
section
variable {P : Program} {w : World} {K : PySem.W.Frag} {mg : Str → Option Value} {base : Heap}
abbrev s_next_level : Stmt := topS 36
theorem sc_next_level : FnScope ["table", "useful", "level", "later", "stand", "many", "target"] ["table", "useful", "level"] (defScope s_next_level) := ⟨rfl, rfl, rfl, by decide +kernel, rfl, by decide +kernel, by decide +kernel⟩
def sp_next_level (K : PySem.W.Frag) : Sp := fun vs H Q _ => ∃ (t r e ul d : Addr) (T : Tab) (k n : Nat) (L : List Bool) (X : List Word) (D : Cs), vs = [.ref t, .ref ul, .ref d] ∧ TabAt K H t r e T ∧ T.Ok k n ∧ SqL K H ul (L.map V.bl) ∧ UseL T k n L ∧
  H d = some (.dK (kD D)) ∧ Lev T k n (bit L) X D ∧ (∀ u, u ∈ X → T.run 0 u < n) ∧
  ∀ (d' : Addr) (H' : Hp) (D' : Cs), Same H H' → H d' = none → H' d' = some (.dK (kD D')) → Lev T k n (bit L) (ext k X) D' → Q (.ref d') H'
theorem ok_next_level {f : Addr} {fd : FuncData} (F : Fun K "_next_level" "_next_level" s_next_level f fd) (B : Bt mg) : FnOk P w K mg base CX0 1 f fd ["table", "useful", "level"] (sp_next_level K) := by
  refine F.ok sc_next_level (fun vs H Q E h => ?_) (fun cdv A outer s0 H vs Q E hr h => ?_)
  · obtain ⟨t, r, e, ul, d, T, k, n, L, X, D, rfl, _⟩ := h
    rfl
  obtain ⟨t, r, e, ul, d, T, k, n, L, X, D, rfl, A1, O, hul, UL, hd, VV, hX, q⟩ := h
  have hu := hu_of hr
  have h40 := O.n40
  refine ⟨_, (pss_cons (ps_set (i := 3) sc_next_level.nd rfl (Or.inl rfl) pe_dnewK) (pss_cons (ps_lock (ps_for PassesOwn.never rfl (pi_items (pv 2)) (g_tup K 2 (pgs_cons (pg_name (i := 4) sc_next_level.nd rfl (Or.inl rfl)) (pgs_cons (pg_name (i := 5) sc_next_level.nd rfl (Or.inl rfl)) pgs_nil))) (pss_one (ps_for PassesOwn.never rfl (p_tup K (p_ixt K (p_ixt K (pv 0) pe_int) (pv 4))) (pg_name (i := 6) sc_next_level.nd rfl (Or.inl rfl)) (pss_one (ps_if (pt_val (p_ixl K (pv 1) (pv 6))) (pss_one (p_dput hu (pv 3) (pv 6) (pe_op op_add (p_get (hu_of hr) (pv 3) (pv 6) pe_int) (pv 5)))) pss_nil)))))) (pss_one (ps_ret (pv 3))))), ?_⟩
  intro dl ndl
  have ndd : d ≠ dl := ne_of_none hd ndl
  have hd1 : (upd H dl (.dK [])) d = some (.dK (kD D)) := by
    rw [upd_ne ndd]
    exact hd
  refine ⟨d, _, hd1, trivial, fun od => ?_⟩
  refine ⟨_, rfl, d, od, kD D, rfl, upd_same, ?_⟩
  have b0 : But d H (upd (upd H dl (.dK [])) d (.frz od (.dK (kD D)))) := fun b o hb e => by
    rw [upd_ne hb, upd_ne (ne_of_none e ndl)]
    exact e
  have hDl := VV.toF.len
  have nt : ∀ ys, HO.dK (kD D) ≠ .tup ys := fun _ z => nomatch z
  have nl : ∀ ys, HO.dK (kD D) ≠ .lst ys := fun _ z => nomatch z
  have nf : ∀ ob u, HO.dK (kD D) ≠ .frz ob u := fun _ _ z => nomatch z
  refine for_it (walk_items (d := d) (o := od) (kvs := kD D)) (fun i σ H3 => ∃ (v4 v5 v6 : Option V) (D' : Cs), σ = [some (.ref t), some (.ref ul), some (.ref d), some (.ref dl), v4, v5, v6] ∧ But d H H3 ∧ H3 d = some (.frz od (.dK (kD D))) ∧ H3 dl = some (.dK (kD D')) ∧
      LevF n (bit L) (fun x => sumD (D.take i) (fun s => deg T s x k)) D')
    ⟨none, none, none, [], rfl, b0, upd_same, by rw [upd_ne ndd.symm]; exact upd_same, ⟨List.nodup_nil, fun s h => by simp [keys] at h, fun s _ _ => rfl⟩⟩ (fun i σ H3 _ h => ?_) ?_ ?_
  · obtain ⟨_, _, _, _, _, _, h, _⟩ := h
    exact h
  · rintro i x σ H3 H4 hi ⟨v4, v5, v6, D', rfl, b3, hd3, hl3, F3⟩ ⟨Tp, x1, x2, rfl, nT, rfl, e1, e2⟩
    have hi : i < D.length := by rw [← kD_length]; exact hi
    obtain ⟨⟨s, c⟩, eD⟩ : ∃ p, D[i]? = some p := ⟨_, List.getElem?_eq_getElem hi⟩
    have ek : (kD D)[i]? = some (kK s, nV c) := by
      unfold kD
      rw [List.getElem?_map, eD]
      rfl
    have e1 : (kD D)[i]?.map (fun kv => kV kv.1) = some x1 := e1
    have e2 : (kD D)[i]?.map Prod.snd = some x2 := e2
    rw [ek] at e1 e2
    obtain rfl : nV s = x1 := Option.some.inj e1
    obtain rfl : nV c = x2 := Option.some.inj e2
    have hmem : (s, c) ∈ D := List.mem_of_getElem? eD
    have hsk : s ∈ keys D := List.mem_map.mpr ⟨_, hmem, rfl⟩
    obtain ⟨hsn, hsu, hc0⟩ := VV.ok s hsk
    rw [val_of_mem VV.nd hmem] at hc0
    have s34 : Same H3 (upd H3 Tp (.tup [nV s, nV c])) := same_new nT _
    have b4 : But d H (upd H3 Tp (.tup [nV s, nV c])) := fun b o hb e => s34 _ _ (b3 b o hb e)
    have hd4 := s34 _ _ hd3
    have hl4 := s34 _ _ hl3
    have A4 := b4.tab hd nt nf A1
    obtain ⟨as, h1, hasl, row⟩ := A4.rows.opened O
    obtain ⟨a, g1, g2⟩ := row s hsn
    have hrl : ((T.rows.getD s []).map nV).length = k := by rw [List.length_map, O.rowlen hsn]
    refine ⟨Tp, _, rfl, SqT.new, rfl, _, _, rfl, _, _, rfl, rfl, ?_⟩
    refine ⟨_, rfl, t, _, _, _, rfl, rfl, A4.top, rfl, _, rfl, r, _, _, _, rfl, rfl, h1, atI_nat g1, a, rfl, ⟨_, g2⟩, ?_⟩
    refine for_tup (K := K) (a := a) (xs := (T.rows.getD s []).map nV) (fun l σ H5 => ∃ (v6 : Option V) (D' : Cs), σ = [some (.ref t), some (.ref ul), some (.ref d), some (.ref dl), some (nV s), some (nV c), v6] ∧ But d H H5 ∧ SqT K H5 a ((T.rows.getD s []).map nV) ∧ H5 d = some (.frz od (.dK (kD D))) ∧ H5 dl = some (.dK (kD D')) ∧
        LevF n (bit L) (fun x => sumD (D.take i) (fun s => deg T s x k) + c * deg T s x l) D')
      ⟨v6, D', rfl, b4, g2, hd4, hl4, F3.congr fun x _ _ => by rw [deg, Nat.mul_zero, Nat.add_zero]⟩ (fun l σ H5 _ h => ?_) ?_ ?_
    · obtain ⟨_, _, _, _, h, _⟩ := h
      exact h
    · rintro l x σ H5 hx ⟨v6, D5, rfl, b5, g5, hd5, hl5, F5⟩
      have hl : l < k := by
        have := (List.getElem?_eq_some_iff.mp hx).1
        omega
      have hst := O.at_st hsn hl
      have hl2 : l < ((T.rows.getD s []).map nV).length := by omega
      rw [atI_nat (List.getElem?_eq_getElem hl2)] at hst
      rw [List.getElem?_eq_getElem hl2] at hx
      obtain rfl : x = nV (T.st s l) := (Option.some.inj hx).symm.trans (Option.some.inj hst)
      have hlt := O.st_lt hsn hl
      refine ⟨_, rfl, _, rfl, ul, _, _, _, rfl, rfl, b5.lst hd nl nf hul, at_bit UL.len hlt, _, rfl, ?_⟩
      cases hb : bit L (T.st s l) with
      | false =>
        refine iteF ⟨_, _, rfl, b5, g5, hd5, hl5, F5.congr fun x _ hxu => ?_⟩
        have hne : T.st s l ≠ x := fun z => by
          rw [z, hxu] at hb
          cases hb
        show _ = _ + c * (deg T s x l + if T.st s l = x then 1 else 0)
        rw [if_neg hne, Nat.add_zero]
      | true =>
        have eo : (valV (kD D5) (kK (T.st s l))).getD (V.int 0) = nV (val D5 (T.st s l)) := by
          rw [kD_val]
          split
          · rfl
          · rename_i h
            rw [val_none h]
            rfl
        have ez : V.int ((val D5 (T.st s l) : Int) + (c : Int)) = nV (val D5 (T.st s l) + c) := congrArg V.int (by omega)
        have hz5 := F5.len
        refine iteT ⟨_, rfl, dl, rfl, .inl ⟨_, .inl hl5⟩, _, rfl, _, DGet.k (k := kK (T.st s l)) hl5, ?_⟩
        rw [eo]
        refine ⟨_, rfl, _, _, rfl, rfl, _, rfl, _, rfl, dl, _, rfl, (.inl ⟨_, kK (T.st s l), hl5, rfl, by rw [kD_length]; exact small1000 (by omega), congrArg (fun z => upd H5 dl (.dK z)) ((kD_put F5.nd (T.st s l) _).symm.trans (congrArg (putK (kD D5) (kK (T.st s l))) ez.symm))⟩), ?_⟩
        refine ⟨_, _, rfl, fun b o hb e => ?_, ?_, ?_, upd_same, (F5.add hlt hb hc0).congr fun x _ _ => ?_⟩
        · rw [upd_ne (ne_of_none e ndl)]
          exact b5 b o hb e
        · have b6 : But dl H5 (upd H5 dl (.dK (kD (putD D5 (T.st s l) (val D5 (T.st s l) + c))))) := fun b o hb e => by
            rw [upd_ne hb]
            exact e
          exact b6.tup hl5 (fun _ z => nomatch z) (fun _ _ z => nomatch z) g5
        · rw [upd_ne ndd]
          exact hd5
        · show (_ + c * deg T s x l) + (if T.st s l = x then c else 0) = _ + c * (deg T s x l + if T.st s l = x then 1 else 0)
          rw [Nat.mul_add]
          split <;> omega
    · rintro σ H5 ⟨v6, D5, rfl, b5, g5, hd5, hl5, F5⟩
      rw [hrl] at F5
      exact ⟨_, _, _, _, rfl, b5, hd5, hl5, F5.congr fun x _ _ => (sumD_take eD _).symm⟩
  · rintro σ H3 ⟨v4, v5, v6, D', rfl, b3, hd3, hl3, F3⟩
    rw [kD_length, List.take_length] at F3
    refine ⟨hd3, _, rfl, q dl _ D' (fun b o e => ?_) ndl ?_ ⟨F3.nd, F3.ok, fun x hx hxu => (F3.vl x hx hxu).trans (VV.next O hX (UL.back O) hxu)⟩⟩
    · by_cases hb : b = d
      · subst hb
        rw [upd_same, ← e, hd]
      · rw [upd_ne hb]
        exact b3 b o hb e
    · rw [upd_ne ndd.symm]
      exact hl3
abbrev s_words_in : Stmt := topS 37
theorem sc_words_in : FnScope ["table", "level", "stand", "many"] ["table", "level"] (defScope s_words_in) := ⟨rfl, rfl, rfl, by decide +kernel, rfl, by decide +kernel, by decide +kernel⟩
def sp_words_in (K : PySem.W.Frag) : Sp := fun vs H Q _ => ∃ (t r e d : Addr) (T : Tab) (k n : Nat) (L : List Bool) (X : List Word) (D : Cs), vs = [.ref t, .ref d] ∧ TabAt K H t r e T ∧ T.Ok k n ∧ UseL T k n L ∧
  H d = some (.dK (kD D)) ∧ Lev T k n (bit L) X D ∧ (∀ u, u ∈ X → T.run 0 u < n) ∧ ∀ (H' : Hp), Same H H' → Q (nV (X.filter (T.acc 0)).length) H'
theorem ok_words_in {f : Addr} {fd : FuncData} (F : Fun K "_words_in" "_words_in" s_words_in f fd) (B : Bt mg) : FnOk P w K mg base CX0 1 f fd ["table", "level"] (sp_words_in K) := by
  refine F.ok sc_words_in (fun vs H Q E h => ?_) (fun cdv A outer s0 H vs Q E hr h => ?_)
  · obtain ⟨t, r, e, d, T, k, n, L, X, D, rfl, _⟩ := h
    rfl
  obtain ⟨t, r, e, d, T, k, n, L, X, D, rfl, A1, O, UL, hd, VV, hX, q⟩ := h
  have h40 := O.n40
  refine ⟨_, (pss_one (ps_ret (pe_callB (c_sum K) (by rfl) B.sum bt_sum (pa_cons (pe_lock (pe_lc (own := [("stand", 2), ("many", 3)]) rfl sc_words_in.nd (pi_items (pv 1)) (blkOk_by (by kernel_rfl)) (fun _ _ _ _ _ => (g_tup K 2 (pgs_cons (pg_name (i := 2) sc_words_in.nd rfl (Or.inl rfl)) (pgs_cons (pg_name (i := 3) sc_words_in.nd rfl (Or.inl rfl)) pgs_nil)))) (fun _ _ _ _ _ => (pts_one (pt_val (p_ixt K (p_ixt K (pv 0) pe_int) (pv 2))))) (fun _ _ _ _ _ => (pv 3)))) pa_nil)))), ?_⟩
  have nt : ∀ ys, HO.dK (kD D) ≠ .tup ys := fun _ z => nomatch z
  have nf : ∀ ob u, HO.dK (kD D) ≠ .frz ob u := fun _ _ z => nomatch z
  have hDl := VV.toF.len
  refine ⟨d, _, hd, trivial, fun od => ⟨_, rfl, d, od, kD D, rfl, upd_same, fun Dl nDl => ?_⟩⟩
  have b0 : But d H (upd H d (.frz od (.dK (kD D)))) := fun b o hb e => by
    rw [upd_ne hb]
    exact e
  refine lc_fm (walk_items (d := d) (o := od) (kvs := kD D)) nDl (fun i => nV ((D.getD i (0, 0)).2)) (fun i => T.fin (D.getD i (0, 0)).1) (by rw [kD_length]; exact small1000 (by omega)) (fun H3 s3 => s3 _ _ upd_same) ?_ ?_
  · rintro i x H3 H4 hi s3 ⟨Tp, x1, x2, rfl, nT, rfl, e1, e2⟩ R R0 hR hR0
    have hi : i < D.length := by rw [← kD_length]; exact hi
    obtain ⟨⟨s, c⟩, eD⟩ : ∃ p, D[i]? = some p := ⟨_, List.getElem?_eq_getElem hi⟩
    have eg : D.getD i (0, 0) = (s, c) := by rw [List.getD_eq_getElem?_getD, eD, Option.getD_some]
    have ek : (kD D)[i]? = some (kK s, nV c) := by
      unfold kD
      rw [List.getElem?_map, eD]
      rfl
    have e1 : (kD D)[i]?.map (fun kv => kV kv.1) = some x1 := e1
    have e2 : (kD D)[i]?.map Prod.snd = some x2 := e2
    rw [ek] at e1 e2
    obtain rfl : nV s = x1 := Option.some.inj e1
    obtain rfl : nV c = x2 := Option.some.inj e2
    have hsk : s ∈ keys D := List.mem_map.mpr ⟨_, List.mem_of_getElem? eD, rfl⟩
    obtain ⟨hsn, hsu, hc0⟩ := VV.ok s hsk
    have s34 : Same H3 (upd H3 Tp (.tup [nV s, nV c])) := same_new nT _
    have A4 : TabAt K (upd H3 Tp (.tup [nV s, nV c])) t r e T := ((b0.tab hd nt nf A1).same s3).same s34
    refine ⟨Tp, _, rfl, SqT.new, rfl, _, _, rfl, _, _, rfl, rfl, rfl, ?_⟩
    refine ⟨_, rfl, t, _, _, _, rfl, rfl, A4.top, rfl, _, rfl, e, _, _, _, rfl, rfl, A4.ends, O.at_fin hsn, T.fin s, rfl, ?_⟩
    rw [eg] at hR hR0
    cases hf : T.fin s with
    | true => exact iteT ⟨_, rfl, hR hf _ s34⟩
    | false => exact iteF (hR0 hf _ s34)
  · intro H3 s3 e3
    have hd3 := s3 _ _ upd_same
    refine ⟨hd3, Dl, ((List.range D.length).filter fun i => T.fin (D.getD i (0, 0)).1).map fun i => (((D.getD i (0, 0)).2 : Nat) : Int), rfl, ?_, ?_⟩
    · refine SqL.of ?_
      rw [upd_ne (fun z => by rw [z, upd_same] at nDl; cases nDl), e3, kD_length, List.map_map]
      rfl
    · have esum : (((List.range D.length).filter fun i => T.fin (D.getD i (0, 0)).1).map fun i => (((D.getD i (0, 0)).2 : Nat) : Int)).sum = ((X.filter (T.acc 0)).length : Nat) := by
        rw [← VV.words hX UL.fin]
        have key : ∀ E : Cs, (((List.range E.length).filter fun i => T.fin (E.getD i (0, 0)).1).map fun i => (((E.getD i (0, 0)).2 : Nat) : Int)).sum = (sumD E (fun s => if T.fin s = true then 1 else 0) : Nat) := by
          intro E
          induction E with
          | nil => rfl
          | cons p E ih =>
            rw [List.length_cons, List.range_succ_eq_map, List.filter_cons, List.filter_map]
            have e0 : ∀ i, (p :: E).getD (i + 1) (0, 0) = E.getD i (0, 0) := fun i => by simp [List.getD_eq_getElem?_getD]
            have e1 : (p :: E).getD 0 (0, 0) = p := rfl
            have e2 : ((fun i => T.fin ((p :: E).getD i (0, 0)).1) ∘ Nat.succ) = fun i => T.fin (E.getD i (0, 0)).1 := by
              funext i
              show T.fin ((p :: E).getD (i + 1) (0, 0)).1 = _
              rw [e0]
            have e3 : ((fun i => (((p :: E).getD i (0, 0)).2 : Int)) ∘ Nat.succ) = fun i => (((E.getD i (0, 0)).2 : Nat) : Int) := by
              funext i
              show ((((p :: E).getD (i + 1) (0, 0)).2 : Nat) : Int) = _
              rw [e0]
            have es : sumD (p :: E) (fun s => if T.fin s = true then 1 else 0) = p.2 * (if T.fin p.1 = true then 1 else 0) + sumD E (fun s => if T.fin s = true then 1 else 0) := rfl
            rw [e2, es]
            by_cases hf : T.fin p.1 = true
            · rw [e1, if_pos hf, List.map_cons, List.sum_cons, List.map_map, e3, ih, if_pos hf, e1, Nat.mul_one, Int.natCast_add]
            · rw [e1, if_neg hf, List.map_map, e3, ih, if_neg hf, Nat.mul_zero, Nat.zero_add]
        exact key D
      rw [esum]
      refine q _ fun b o e => ?_
      by_cases hb : b = d
      · subst hb
        rw [upd_same, ← e, hd]
      · rw [upd_ne hb]
        exact s3 _ _ (b0 b o hb e)
end
end Own
namespace Own
open PySem PySem.Spec PyProof.Rows L2
section
variable {P : Program} {w : World} {K : PySem.W.Frag} {mg : Str → Option Value} {base : Heap}
abbrev s_count_words : Stmt := topS 28
theorem sc_count_words : FnScope ["table", "length", "useful", "level", "_"] ["table", "length"] (defScope s_count_words) := ⟨rfl, rfl, rfl, by decide +kernel, rfl, by decide +kernel, by decide +kernel⟩
def sp_count_words (K : PySem.W.Frag) : Sp := fun vs H Q _ => ∃ (t r e : Addr) (T : Tab) (k n m : Nat), vs = [.ref t, nV m] ∧ TabAt K H t r e T ∧ T.Ok k n ∧ m ≤ 60 ∧ ∀ (H' : Hp), Same H H' → Q (nV (T.W k 0 m).length) H'
theorem ok_count_words {f : Addr} {fd : FuncData} (F : Fun K "count_words" "count_words" s_count_words f fd) (B : Bt mg) (C_check_table : Got P w K mg base CX0 5 "check_table" ["table"] (sp_check_table K)) (C_is_between : Got P w K mg base CX0 2 "is_between" ["value", "low", "high"] sp_is_between)
    (C_useful : Got P w K mg base CX0 2 "_useful" ["table"] (sp_useful K)) (C_first_level : Got P w K mg base CX0 1 "_first_level" ["useful"] (sp_first_level K)) (C_next_level : Got P w K mg base CX0 1 "_next_level" ["table", "useful", "level"] (sp_next_level K))
    (C_words_in : Got P w K mg base CX0 1 "_words_in" ["table", "level"] (sp_words_in K)) : FnOk P w K mg base CX0 6 f fd ["table", "length"] (sp_count_words K) := by
  refine F.ok sc_count_words (fun vs H Q E h => ?_) (fun cdv A outer s0 H vs Q E hr h => ?_)
  · obtain ⟨t, r, e, T, k, n, m, rfl, _⟩ := h
    rfl
  obtain ⟨t, r, e, T, k, n, m, rfl, A1, O, hm, q⟩ := h
  have hr1 : Room 1 _ := hr.mono (by decide)
  have hr2 : Room 2 _ := hr.mono (by decide)
  refine ⟨_, (pss_cons (ps_expr (C_check_table.call hr (by rfl) (pa_cons (pv 0) pa_nil))) (pss_cons (ps_if (pt_not (pt_val (C_is_between.call hr2 (by rfl) (pa_cons (pv 1) (pa_cons pe_int (pa_cons (pe_g (by rfl) B.gLength) pa_nil)))))) (pss_one ps_never) pss_nil) (pss_cons (ps_set (i := 2) sc_count_words.nd rfl (Or.inl rfl) (C_useful.call hr2 (by rfl) (pa_cons (pv 0) pa_nil))) (pss_cons (ps_set (i := 3) sc_count_words.nd rfl (Or.inl rfl) (C_first_level.call hr1 (by rfl) (pa_cons (pv 2) pa_nil))) (pss_cons (ps_for PassesOwn.never rfl (pi_range1 (by rfl) B.range (pa_cons (pv 1) pa_nil)) (pg_name (i := 4) sc_count_words.nd rfl (Or.inl rfl)) (pss_one (ps_set (i := 3) sc_count_words.nd rfl (Or.inl rfl) (C_next_level.call hr1 (by rfl) (pa_cons (pv 0) (pa_cons (pv 2) (pa_cons (pv 3) pa_nil))))))) (pss_one (ps_ret (C_words_in.call hr1 (by rfl) (pa_cons (pv 0) (pa_cons (pv 3) pa_nil)))))))))), ?_⟩
  refine ⟨_, rfl, t, r, e, T, k, n, rfl, A1, O, fun H1 s1 => ?_⟩
  refine ⟨_, rfl, _, _, _, rfl, true, ?_, iteF ?_⟩
  · refine congrArg V.bl ?_
    rw [Bool.and_eq_true]
    exact ⟨decide_eq_true (by omega), decide_eq_true (by omega)⟩
  refine ⟨_, rfl, t, r, e, T, k, n, rfl, A1.same s1, O, fun ul H2 L s2 nul hul UL => ?_⟩
  refine ⟨_, rfl, ul, T, k, n, L, rfl, O, SqL.of hul, UL, fun d H3 D s3 nd hd V0 => ?_⟩
  have s13 := s1.trans (s2.trans s3)
  refine ⟨_, rfl, _, rfl, by omega, by omega, for_range (lo := 0) (n := (m : Int).toNat) (fun i σ H4 => ∃ (d : Addr) (D : Cs) (v : Option V), σ = [some (.ref t), some (nV m), some (.ref ul), some (.ref d), v] ∧ Same H H4 ∧ H4 ul = some (.lst (L.map V.bl)) ∧ H4 d = some (.dK (kD D)) ∧ Lev T k n (bit L) (texts k i) D)
    ⟨d, D, none, rfl, s13, s3 _ _ hul, hd, V0⟩ ?_ ?_⟩
  · rintro i σ H4 hi ⟨d, D, v, rfl, s4, hul4, hd4, V4⟩
    refine ⟨_, rfl, _, rfl, _, rfl, t, r, e, ul, d, T, k, n, L, _, D, rfl, A1.same s4, O, SqL.of hul4, UL, hd4, V4, texts_run O, fun d' H5 D' s5 nd' hd' V5 => ?_⟩
    rw [ext_texts] at V5
    exact ⟨d', D', _, rfl, s4.trans s5, s5 _ _ hul4, hd', V5⟩
  · rintro σ H4 ⟨d, D, v, rfl, s4, hul4, hd4, V4⟩
    rw [Int.toNat_natCast] at V4
    exact ⟨_, rfl, _, rfl, t, r, e, d, T, k, n, L, _, D, rfl, A1.same s4, O, UL, hd4, V4, texts_run O, fun H5 s5 => q H5 (s4.trans s5)⟩
abbrev s_counts : Stmt := topS 38
theorem sc_counts : FnScope ["table", "useful", "level", "counts"] ["table"] (defScope s_counts) := ⟨rfl, rfl, rfl, by decide +kernel, rfl, by decide +kernel, by decide +kernel⟩
def sp_counts (K : PySem.W.Frag) : Sp := fun vs H Q _ => ∃ (t r e : Addr) (T : Tab) (k n : Nat), vs = [.ref t] ∧ TabAt K H t r e T ∧ T.Ok k n ∧ ∀ (H' : Hp), Same H H' → (Alive T k n → Q .non H') ∧
  ∀ (l : Addr) (m : Nat), H l = none → H' l = some (.lst ((List.range m).map fun j => nV (T.W k 0 j).length)) → m ≤ n → ¬ Alive T k m → (∀ j, j < m → Alive T k j) → Q (.ref l) H'
theorem ok_counts {f : Addr} {fd : FuncData} (F : Fun K "_counts" "_counts" s_counts f fd) (B : Bt mg)
    (C_useful : Got P w K mg base CX0 2 "_useful" ["table"] (sp_useful K)) (C_first_level : Got P w K mg base CX0 1 "_first_level" ["useful"] (sp_first_level K)) (C_next_level : Got P w K mg base CX0 1 "_next_level" ["table", "useful", "level"] (sp_next_level K))
    (C_words_in : Got P w K mg base CX0 1 "_words_in" ["table", "level"] (sp_words_in K)) : FnOk P w K mg base CX0 3 f fd ["table"] (sp_counts K) := by
  refine F.ok sc_counts (fun vs H Q E h => ?_) (fun cdv A outer s0 H vs Q E hr h => ?_)
  · obtain ⟨t, r, e, T, k, n, rfl, _⟩ := h
    rfl
  obtain ⟨t, r, e, T, k, n, rfl, A1, O, q⟩ := h
  have hr1 : Room 1 _ := hr.mono (by decide)
  have h40 := O.n40
  refine ⟨_, (pss_cons (ps_set (i := 1) sc_counts.nd rfl (Or.inl rfl) (C_useful.call hr (by rfl) (pa_cons (pv 0) pa_nil))) (pss_cons (ps_set (i := 2) sc_counts.nd rfl (Or.inl rfl) (C_first_level.call hr1 (by rfl) (pa_cons (pv 1) pa_nil))) (pss_cons (ps_set (i := 3) sc_counts.nd rfl (Or.inl rfl) (pe_lst pa_nil)) (pss_cons (ps_while PassesOwn.never (PW.pt (pw_and (p_tru K (pv 2)) (pw_and1 (pt_cmpR op_lt (pe_callB (c_len K) (by rfl) B.len bt_len (pa_cons (pv 3) pa_nil)) (pe_callB (c_len K) (by rfl) B.len bt_len (pa_cons (p_ixt K (pv 0) pe_int) pa_nil)) (nomark _))))) (pss_cons (ps_expr (p_app K (pv 3) (pa_cons (C_words_in.call hr1 (by rfl) (pa_cons (pv 0) (pa_cons (pv 2) pa_nil))) pa_nil))) (pss_one (ps_set (i := 2) sc_counts.nd rfl (Or.inl rfl) (C_next_level.call hr1 (by rfl) (pa_cons (pv 0) (pa_cons (pv 1) (pa_cons (pv 2) pa_nil)))))))) (pss_one (ps_ret (pe_ifExp (p_tru K (pv 2)) pe_non (pv 3)))))))), ?_⟩
  refine ⟨_, rfl, t, r, e, T, k, n, rfl, A1, O, fun ul H2 L s2 nul hul UL => ?_⟩
  refine ⟨_, rfl, ul, T, k, n, L, rfl, O, SqL.of hul, UL, fun d H3 D s3 nd hd V0 => ?_⟩
  refine ⟨by decide, fun lc nlc => ?_⟩
  have s13 := (s2.trans s3).trans (same_new nlc (.lst []))
  have nlc0 : H lc = none := (s2.trans s3).free nlc
  refine ⟨fun m σ H4 => ∃ (i : Nat) (d : Addr) (D : Cs), m + i = n ∧ σ = [some (.ref t), some (.ref ul), some (.ref d), some (.ref lc)] ∧ Same H H4 ∧ H4 ul = some (.lst (L.map V.bl)) ∧ H4 d = some (.dK (kD D)) ∧ Lev T k n (bit L) (texts k i) D ∧
      H4 lc = some (.lst ((List.range i).map fun j => nV (T.W k 0 j).length)) ∧ ∀ j, j < i → Alive T k j,
    ⟨n, 0, d, D, by omega, rfl, s13, ?_, ?_, V0, upd_same, fun j hj => absurd hj (by omega)⟩, ?_⟩
  · exact same_new nlc _ _ _ (s3 _ _ hul)
  · exact same_new nlc _ _ _ hd
  rintro m σ H4 ⟨i, d, D, hm, rfl, s4, hul4, hd4, V4, hlc4, hal⟩
  have hDal := lev_alive O UL.iff V4
  have finish : ∀ (H5 : Hp), Same H4 H5 → (¬ Alive T k i ∨ i = n) → tRet (tIf (fun σ H Q => tVar 2 σ H fun x H' => ∃ k, TruV K x H' k ∧ Q k H') (tC .non) (tVar 3)) { nx := fun _ H' => Q .non H', rt := Q } [some (.ref t), some (.ref ul), some (.ref d), some (.ref lc)] H5 := by
    intro H5 s5 hend
    refine ⟨_, rfl, !(kD D).isEmpty, .inr (.inr ⟨_, s5 _ _ hd4, rfl⟩), ?_⟩
    cases hD : D with
    | nil =>
      refine iteF ⟨_, rfl, (q H5 (s4.trans s5)).2 lc i nlc0 (s5 _ _ hlc4) (by omega) (hDal.mp hD) hal⟩
    | cons p D' =>
      have ha : Alive T k i := Classical.byContradiction fun z => by
        have := hDal.mpr z
        rw [hD] at this
        cases this
      have hin : i = n := hend.resolve_left fun z => z ha
      rw [hin] at ha
      exact iteT ((q H5 (s4.trans s5)).1 ha)
  refine ⟨_, rfl, !(kD D).isEmpty, .inr (.inr ⟨_, hd4, rfl⟩), ?_⟩
  cases hD : D with
  | nil => exact iteF (iteF (finish H4 (Same.refl _) (.inl (hDal.mp hD))))
  | cons p D' =>
    have ha : Alive T k i := Classical.byContradiction fun z => by
      have := hDal.mpr z
      rw [hD] at this
      cases this
    refine iteT ?_
    obtain ⟨xs, hx, hxl⟩ := (A1.same s4).rows.len
    have hrl : xs.length = n := by rw [hxl, O.rl]
    refine ⟨_, rfl, lc, _, rfl, .inl (SqL.of hlc4), _, rfl, t, _, _, _, rfl, rfl, (A1.same s4).top, rfl, r, _, rfl, .inr hx, _, _, rfl, rfl, _, rfl, ?_⟩
    rw [List.length_map, List.length_range, hrl]
    refine ite2 (fun c => ?_) (fun c => ?_)
    · have c := of_decide_eq_true c
      refine ⟨_, fun _ _ h => h, ?_⟩
      refine ⟨_, rfl, .inl ⟨rfl, _, SqL.of hlc4⟩, _, rfl, _, rfl, t, r, e, d, T, k, n, L, _, D, rfl, A1.same s4, O, UL, hd4, V4, texts_run O, fun H5 s5 => ?_⟩
      refine ⟨lc, _, _, rfl, rfl, s5 _ _ hlc4, by rw [List.length_map, List.length_range]; exact small1000 (by omega), ?_⟩
      have s6 : But lc H4 (upd H5 lc (.lst (((List.range i).map fun j => nV (T.W k 0 j).length) ++ [nV ((texts k i).filter (T.acc 0)).length]))) := fun b o hb e => by
        rw [upd_ne hb]
        exact s5 _ _ e
      have nlt : ∀ ys, HO.lst ((List.range i).map fun j => nV (T.W k 0 j).length) ≠ .tup ys := fun _ z => nomatch z
      have nlf : ∀ ob u, HO.lst ((List.range i).map fun j => nV (T.W k 0 j).length) ≠ .frz ob u := fun _ _ z => nomatch z
      have hd6 := s6 d _ (ne_of hd4 hlc4 (fun z => nomatch z)) hd4
      have hul6 : (upd H5 lc (.lst (((List.range i).map fun j => nV (T.W k 0 j).length) ++ [nV ((texts k i).filter (T.acc 0)).length]))) ul = some (.lst (L.map V.bl)) := by
        rw [upd_ne (ne_of_none (s2.trans (Same.refl _) |> fun _ => hul) (by exact (s3.free nlc)))]
        exact s5 _ _ hul4
      have s7 : Same H (upd H5 lc (.lst (((List.range i).map fun j => nV (T.W k 0 j).length) ++ [nV ((texts k i).filter (T.acc 0)).length]))) := fun b o e => by
        rw [upd_ne (ne_of_none e nlc0)]
        exact s5 _ _ (s4 _ _ e)
      refine ⟨_, rfl, _, rfl, _, rfl, t, r, e, ul, d, T, k, n, L, _, D, rfl, A1.same s7, O, SqL.of hul6, UL, hd6, V4, texts_run O, fun d' H6 D' s8 nd' hd' V6 => ?_⟩
      rw [ext_texts] at V6
      refine ⟨m - 1, by omega, i + 1, d', D', by omega, rfl, s7.trans s8, s8 _ _ hul6, hd', V6, ?_, fun j hj => ?_⟩
      · rw [s8 _ _ upd_same, List.range_succ, List.map_append]
        rfl
      · by_cases hji : j = i
        · rw [hji]
          exact ha
        · exact hal j (by omega)
    · have c : ¬ ((i : Nat) : Int) < (n : Nat) := of_decide_eq_false (Bool.eq_false_iff.mpr c)
      exact finish H4 (Same.refl _) (.inr (by omega))
abbrev s_how_many : Stmt := topS 29
theorem sc_how_many : FnScope ["table", "counts"] ["table"] (defScope s_how_many) := ⟨rfl, rfl, rfl, by decide +kernel, rfl, by decide +kernel, by decide +kernel⟩
def sp_how_many (K : PySem.W.Frag) : Sp := fun vs H Q _ => ∃ (t r e : Addr) (T : Tab) (k n : Nat), vs = [.ref t] ∧ TabAt K H t r e T ∧ T.Ok k n ∧ ∀ (H' : Hp), Same H H' → (Alive T k n → Q .non H') ∧
  ∀ (m : Nat), m ≤ n → ¬ Alive T k m → (∀ j, j < m → Alive T k j) → Q (nV (sumW T k m)) H'
theorem sum_counts (T : Tab) (k : Nat) : ∀ m, (((List.range m).map fun j => (((T.W k 0 j).length : Nat) : Int))).sum = (sumW T k m : Nat)
  | 0 => rfl
  | m + 1 => by
    rw [List.range_succ, List.map_append, List.sum_append, sum_counts T k m, sumW]
    simp
theorem ok_how_many {f : Addr} {fd : FuncData} (F : Fun K "how_many" "how_many" s_how_many f fd) (B : Bt mg) (C_check_table : Got P w K mg base CX0 5 "check_table" ["table"] (sp_check_table K)) (C_counts : Got P w K mg base CX0 3 "_counts" ["table"] (sp_counts K)) :
    FnOk P w K mg base CX0 6 f fd ["table"] (sp_how_many K) := by
  refine F.ok sc_how_many (fun vs H Q E h => ?_) (fun cdv A outer s0 H vs Q E hr h => ?_)
  · obtain ⟨t, r, e, T, k, n, rfl, _⟩ := h
    rfl
  obtain ⟨t, r, e, T, k, n, rfl, A1, O, q⟩ := h
  have hr3 : Room 3 _ := hr.mono (by decide)
  refine ⟨_, (pss_cons (ps_expr (C_check_table.call hr (by rfl) (pa_cons (pv 0) pa_nil))) (pss_cons (ps_set (i := 1) sc_how_many.nd rfl (Or.inl rfl) (C_counts.call hr3 (by rfl) (pa_cons (pv 0) pa_nil))) (pss_one (ps_ret (pe_ifExp (pt_cmpR op_isN (pv 1) pe_non (nomark _)) pe_non (pe_callB (c_sum K) (by rfl) B.sum bt_sum (pa_cons (pv 1) pa_nil))))))), ?_⟩
  refine ⟨_, rfl, t, r, e, T, k, n, rfl, A1, O, fun H1 s1 => ?_⟩
  refine ⟨_, rfl, t, r, e, T, k, n, rfl, A1.same s1, O, fun H2 s2 => ⟨fun ha => ?_, fun l m nl hl hm hna hal => ?_⟩⟩
  · exact ⟨_, rfl, rfl, true, rfl, iteT ((q H2 (s1.trans s2)).1 ha)⟩
  · refine ⟨_, rfl, rfl, false, rfl, iteF ⟨_, rfl, l, (List.range m).map fun j => (((T.W k 0 j).length : Nat) : Int), rfl, SqL.of (by rw [hl, List.map_map]; rfl), ?_⟩⟩
    rw [sum_counts]
    exact (q H2 (s1.trans s2)).2 m hm hna hal
abbrev s_longest : Stmt := topS 30
theorem sc_longest : FnScope ["table", "counts"] ["table"] (defScope s_longest) := ⟨rfl, rfl, rfl, by decide +kernel, rfl, by decide +kernel, by decide +kernel⟩
def sp_longest (K : PySem.W.Frag) : Sp := fun vs H Q _ => ∃ (t r e : Addr) (T : Tab) (k n : Nat), vs = [.ref t] ∧ TabAt K H t r e T ∧ T.Ok k n ∧ ∀ (H' : Hp), Same H H' → (Alive T k n → Q .non H') ∧
  ∀ (m : Nat), m ≤ n → ¬ Alive T k m → (∀ j, j < m → Alive T k j) → Q (.int ((m : Int) - 1)) H'
theorem ok_longest {f : Addr} {fd : FuncData} (F : Fun K "longest" "longest" s_longest f fd) (B : Bt mg) (C_check_table : Got P w K mg base CX0 5 "check_table" ["table"] (sp_check_table K)) (C_counts : Got P w K mg base CX0 3 "_counts" ["table"] (sp_counts K)) :
    FnOk P w K mg base CX0 6 f fd ["table"] (sp_longest K) := by
  refine F.ok sc_longest (fun vs H Q E h => ?_) (fun cdv A outer s0 H vs Q E hr h => ?_)
  · obtain ⟨t, r, e, T, k, n, rfl, _⟩ := h
    rfl
  obtain ⟨t, r, e, T, k, n, rfl, A1, O, q⟩ := h
  have hr3 : Room 3 _ := hr.mono (by decide)
  refine ⟨_, (pss_cons (ps_expr (C_check_table.call hr (by rfl) (pa_cons (pv 0) pa_nil))) (pss_cons (ps_set (i := 1) sc_longest.nd rfl (Or.inl rfl) (C_counts.call hr3 (by rfl) (pa_cons (pv 0) pa_nil))) (pss_one (ps_ret (pe_ifExp (pt_cmpR op_isN (pv 1) pe_non (nomark _)) pe_non (pe_op op_sub (pe_callB (c_len K) (by rfl) B.len bt_len (pa_cons (pv 1) pa_nil)) pe_int)))))), ?_⟩
  refine ⟨_, rfl, t, r, e, T, k, n, rfl, A1, O, fun H1 s1 => ?_⟩
  refine ⟨_, rfl, t, r, e, T, k, n, rfl, A1.same s1, O, fun H2 s2 => ⟨fun ha => ?_, fun l m nl hl hm hna hal => ?_⟩⟩
  · exact ⟨_, rfl, rfl, true, rfl, iteT ((q H2 (s1.trans s2)).1 ha)⟩
  · refine ⟨_, rfl, rfl, false, rfl, iteF ⟨_, rfl, l, _, rfl, .inl (SqL.of hl), _, _, rfl, rfl, ?_⟩⟩
    rw [List.length_map, List.length_range]
    exact (q H2 (s1.trans s2)).2 m hm hna hal
end
end Own
namespace Own
open PySem PySem.Spec PyProof.Rows L2
theorem sumW_le {T : Tab} {k a b : Nat} (h : a ≤ b) : sumW T k a ≤ sumW T k b := by
  induction h with
  | refl => exact Nat.le_refl _
  | step _ ih => exact Nat.le_trans ih (by rw [sumW]; omega)
/-- the useful stands to which j letters lead -/
structure LevS (T : Tab) (k n j : Nat) (S : List Nat) : Prop where
  nd : S.Nodup
  iff : ∀ s, s ∈ S ↔ s < n ∧ Useful T k s ∧ ∃ u, u ∈ texts k j ∧ T.run 0 u = s
theorem LevS.of {T : Tab} {k n j : Nat} {L : List Bool} {D : Cs} (UL : UseL T k n L) (V : Lev T k n (bit L) (texts k j) D) : LevS T k n j (keys D) := by
  refine ⟨V.nd, fun s => ⟨fun h => ?_, ?_⟩⟩
  · obtain ⟨h1, h2, h3⟩ := V.ok s h
    rw [V.vl s h1 h2] at h3
    obtain ⟨u, hu⟩ := List.exists_mem_of_length_pos h3
    obtain ⟨a, b⟩ := List.mem_filter.mp hu
    exact ⟨h1, (UL.iff s h1).mp h2, u, a, by simpa using b⟩
  · rintro ⟨h1, h2, u, hu, e⟩
    have h3 := V.vl s h1 ((UL.iff s h1).mpr h2)
    refine Classical.byContradiction fun hn => ?_
    rw [val_none hn] at h3
    have h4 : u ∈ (texts k j).filter fun v => decide (T.run 0 v = s) := List.mem_filter.mpr ⟨hu, by simpa using e⟩
    unfold cX at h3
    have := List.length_pos_of_mem h4
    omega
def LevAt (H : Hp) (T : Tab) (k n j : Nat) (a : Addr) : Prop := ∃ (o : Obj) (S : List Nat), PlainT o ∧ H a = some (.frz o (.tup (S.map nV))) ∧ LevS T k n j S
section
variable {P : Program} {w : World} {K : PySem.W.Frag} {mg : Str → Option Value} {base : Heap}
abbrev s_levels_to : Stmt := topS 39
theorem sc_levels_to : FnScope ["table", "index", "useful", "level", "levels", "many"] ["table", "index"] (defScope s_levels_to) := ⟨rfl, rfl, rfl, by decide +kernel, rfl, by decide +kernel, by decide +kernel⟩
def sp_levels_to (K : PySem.W.Frag) (C : Addr) : Sp := fun vs H Q E => ∃ (t r e : Addr) (T : Tab) (k n i : Nat), vs = [.ref t, nV i] ∧ TabAt K H t r e T ∧ T.Ok k n ∧ (∃ M, M ≤ 1000000 ∧ ∀ j, Alive T k j → sumW T k j ≤ i → j ≤ M) ∧
  (∀ (j lft : Nat) (p lv : Addr) (ads : List Addr) (H' : Hp), sumW T k j + lft = i → lft < (T.W k 0 j).length → Same H H' → H' p = some (.tup [.ref lv, nV lft]) → H' lv = some (.lst (ads.map V.ref)) → ads.length = j + 1 →
    (∀ (j' : Nat) (a : Addr), ads[j']? = some a → LevAt H' T k n j' a) → Q (.ref p) H') ∧
  (∀ (j : Nat) (H' : Hp), ¬ Alive T k j → sumW T k j ≤ i → Same H H' → E (.ref C) none H')
theorem ok_levels_to {f C : Addr} {fd : FuncData} (F : Fun K "_levels_to" "_levels_to" s_levels_to f fd) (B : Bt mg) (TB : ExcT K mg "BadIndex" C) (C_useful : Got P w K mg base CX0 2 "_useful" ["table"] (sp_useful K)) (C_first_level : Got P w K mg base CX0 1 "_first_level" ["useful"] (sp_first_level K))
    (C_next_level : Got P w K mg base CX0 1 "_next_level" ["table", "useful", "level"] (sp_next_level K)) (C_words_in : Got P w K mg base CX0 1 "_words_in" ["table", "level"] (sp_words_in K)) : FnOk P w K mg base (L2.CX P w) 3 f fd ["table", "index"] (sp_levels_to K C) := by
  refine F.okX sc_levels_to (fun vs H Q E h => ?_) (fun cdv A outer s0 H vs Q E hr h => ?_)
  · obtain ⟨t, r, e, T, k, n, i, rfl, _⟩ := h
    rfl
  obtain ⟨t, r, e, T, k, n, i, rfl, A1, O, ⟨M, hM0, hM⟩, q, qe⟩ := h
  have hr1 : Room 1 _ := hr.mono (by decide)
  refine ⟨_, (pss_cons (ps_set (i := 2) sc_levels_to.nd rfl (Or.inl rfl) (C_useful.call hr (by rfl) (pa_cons (pv 0) pa_nil))) (pss_cons (ps_set (i := 3) sc_levels_to.nd rfl (Or.inl rfl) (C_first_level.call hr1 (by rfl) (pa_cons (pv 2) pa_nil))) (pss_cons (ps_set (i := 4) sc_levels_to.nd rfl (Or.inl rfl) (pe_lst pa_nil)) (pss_cons (ps_while (passes_of rfl) (p_tru K (pv 3)) (pss_cons (ps_expr (p_app K (pv 4) (pa_cons (pe_callTy (call_tupD rfl) (by rfl) B.tuple bt_tuple (pa_cons (pv 3) pa_nil)) pa_nil))) (pss_cons (ps_set (i := 5) sc_levels_to.nd rfl (Or.inl rfl) (C_words_in.call hr1 (by rfl) (pa_cons (pv 0) (pa_cons (pv 3) pa_nil)))) (pss_cons (ps_if (pt_cmpR op_lt (pv 1) (pv 5) (nomark _)) (pss_one (ps_ret (pe_tup (pa_cons (pv 4) (pa_cons (pv 1) pa_nil))))) pss_nil) (pss_cons (ps_aug (i := 1) sc_levels_to.nd rfl (Or.inl rfl) (pv 5) ip_sub) (pss_one (ps_set (i := 3) sc_levels_to.nd rfl (Or.inl rfl) (C_next_level.call hr1 (by rfl) (pa_cons (pv 0) (pa_cons (pv 2) (pa_cons (pv 3) pa_nil))))))))))) (pss_one (p_raise TB (takes_of rfl rfl rfl rfl) (by rfl))))))), ?_⟩
  refine ⟨_, rfl, t, r, e, T, k, n, rfl, A1, O, fun ul H2 L s2 nul hul UL => ?_⟩
  refine ⟨_, rfl, ul, T, k, n, L, rfl, O, SqL.of hul, UL, fun d H3 D s3 nd hd V0 => ?_⟩
  refine ⟨by decide, fun lv nlv => ?_⟩
  have s13 := (s2.trans s3).trans (same_new nlv (.lst []))
  have nlv0 : H lv = none := (s2.trans s3).free nlv
  refine ⟨fun m σ H4 => ∃ (j lft : Nat) (d : Addr) (D : Cs) (v : Option V) (ads : List Addr), m = M + 1 - j ∧ sumW T k j + lft = i ∧ σ = [some (.ref t), some (nV lft), some (.ref ul), some (.ref d), some (.ref lv), v] ∧ Same H H4 ∧ H4 ul = some (.lst (L.map V.bl)) ∧ H4 d = some (.dK (kD D)) ∧ Lev T k n (bit L) (texts k j) D ∧
      H4 lv = some (.lst (ads.map V.ref)) ∧ ads.length = j ∧ ∀ (j' : Nat) (a : Addr), ads[j']? = some a → LevAt H4 T k n j' a,
    ⟨M + 1, 0, i, d, D, none, [], rfl, Nat.zero_add _, rfl, s13, same_new nlv _ _ _ (s3 _ _ hul), same_new nlv _ _ _ hd, V0, upd_same, rfl, fun j' a h => by simp at h⟩, ?_⟩
  rintro m σ H4 ⟨j, lft, d, D, v, ads, hm, hsum, rfl, s4, hul4, hd4, V4, hlv4, hads, hlev⟩
  have hDal := lev_alive O UL.iff V4
  refine ⟨_, rfl, !(kD D).isEmpty, .inr (.inr ⟨_, hd4, rfl⟩), ?_⟩
  cases hD : D with
  | nil => exact iteF (qe j H4 (hDal.mp hD) (by omega) s4)
  | cons p0 D0 =>
    have ha : Alive T k j := Classical.byContradiction fun z => by
      have := hDal.mpr z
      rw [hD] at this
      cases this
    have hjM := hM j ha (by omega)
    rw [hD] at hd4 V4
    refine iteT ⟨_, fun _ _ h => h, ?_⟩
    have hjz : j < sizeLine := by
      rw [sizeLine_eq]
      omega
    -- levels.append(tuple(level))
    refine ⟨_, rfl, .inl ⟨rfl, _, SqL.of hlv4⟩, _, rfl, d, _, rfl, hd4, fun ta oo nta pt => ?_⟩
    have ekeys : ((kD (p0 :: D0)).map fun kv => kV kv.1) = (keys (p0 :: D0)).map nV := by
      unfold kD keys
      rw [List.map_map, List.map_map]
      rfl
    rw [ekeys]
    have s5 : Same H4 (upd H4 ta (.frz oo (.tup ((keys (p0 :: D0)).map nV)))) := same_new nta _
    have ntl : lv ≠ ta := ne_of_none hlv4 nta
    refine ⟨lv, _, _, rfl, rfl, s5 _ _ hlv4, by rw [List.length_map, hads]; exact hjz, ?_⟩
    have hLS := LevS.of UL V4
    have b6 : But lv H4 (upd (upd H4 ta (.frz oo (.tup ((keys (p0 :: D0)).map nV)))) lv (.lst (ads.map V.ref ++ [.ref ta]))) := fun b o hb e => by
      rw [upd_ne hb]
      exact s5 _ _ e
    have s7 : Same H (upd (upd H4 ta (.frz oo (.tup ((keys (p0 :: D0)).map nV)))) lv (.lst (ads.map V.ref ++ [.ref ta]))) := fun b o e => b6 b o (ne_of_none e nlv0) (s4 _ _ e)
    have hul6 := b6 ul _ (ne_of_none hul (by exact s3.free nlv)) hul4
    have hd6 := b6 d _ (ne_of hd4 hlv4 (fun z => nomatch z)) hd4
    have hlev6 : ∀ (j' : Nat) (a : Addr), (ads ++ [ta])[j']? = some a → LevAt (upd (upd H4 ta (.frz oo (.tup ((keys (p0 :: D0)).map nV)))) lv (.lst (ads.map V.ref ++ [.ref ta]))) T k n j' a := by
      intro j' a hja
      by_cases hlt : j' < ads.length
      · rw [List.getElem?_append_left hlt] at hja
        obtain ⟨o, S, po, ho, hS⟩ := hlev j' a hja
        exact ⟨o, S, po, b6 a _ (ne_of ho hlv4 (fun z => nomatch z)) ho, hS⟩
      · rw [List.getElem?_append_right (by omega)] at hja
        have hz : j' - ads.length = 0 := by
          have := (List.getElem?_eq_some_iff.mp hja).1
          simp at this
          omega
        rw [hz] at hja
        obtain rfl : ta = a := by simpa using hja
        have hjj : j' = j := by omega
        rw [hjj]
        exact ⟨oo, _, pt, by rw [upd_ne ntl.symm]; exact upd_same, hLS⟩
    generalize hH6 : upd (upd H4 ta (.frz oo (.tup ((keys (p0 :: D0)).map nV)))) lv (.lst (ads.map V.ref ++ [.ref ta])) = H6 at *
    have hlv6 : H6 lv = some (.lst ((ads ++ [ta]).map V.ref)) := by
      rw [← hH6, upd_same, List.map_append]
      rfl
    -- many = _words_in(table, level)
    refine ⟨_, rfl, _, rfl, t, r, e, d, T, k, n, L, _, _, rfl, A1.same s7, O, UL, hd6, V4, texts_run O, fun H7 s8 => ?_⟩
    have eW : ((texts k j).filter (T.acc 0)).length = (T.W k 0 j).length := rfl
    rw [eW]
    refine ⟨_, rfl, _, rfl, _, _, rfl, rfl, _, rfl, ite2 (fun c => ?_) (fun c => ?_)⟩
    · have c : ((lft : Nat) : Int) < ((T.W k 0 j).length : Nat) := of_decide_eq_true c
      refine ⟨_, rfl, _, rfl, (show 2 ≤ sizeLine by decide), fun p np => ?_⟩
      refine q j lft p lv (ads ++ [ta]) _ hsum (by omega) (s7.trans (s8.trans (same_new np _))) upd_same ?_ (by rw [List.length_append, hads]; rfl) fun j' a hja => ?_
      · exact same_new np _ _ _ (s8 _ _ hlv6)
      · obtain ⟨o, S, po, ho, hS⟩ := hlev6 j' a hja
        exact ⟨o, S, po, same_new np _ _ _ (s8 _ _ ho), hS⟩
    · have c : ¬ ((lft : Nat) : Int) < ((T.W k 0 j).length : Nat) := of_decide_eq_false (Bool.eq_false_iff.mpr c)
      have ei : V.int (((lft : Nat) : Int) - ((T.W k 0 j).length : Nat)) = nV (lft - (T.W k 0 j).length) := congrArg V.int (by omega)
      refine ⟨_, rfl, _, rfl, _, _, rfl, rfl, ?_⟩
      refine ⟨_, rfl, _, rfl, _, rfl, t, r, e, ul, d, T, k, n, L, _, _, rfl, (A1.same s7).same s8, O, SqL.of (s8 _ _ hul6), UL, s8 _ _ hd6, V4, texts_run O, fun d' H8 D' s9 nd' hd' V6 => ?_⟩
      rw [ext_texts] at V6
      refine ⟨M + 1 - (j + 1), by omega, j + 1, lft - (T.W k 0 j).length, d', D', some (nV (T.W k 0 j).length), ads ++ [ta], rfl, by rw [sumW]; omega, ?_, s7.trans (s8.trans s9), s9 _ _ (s8 _ _ hul6), hd', V6, s9 _ _ (s8 _ _ hlv6), by rw [List.length_append, hads]; rfl, fun j' a hja => ?_⟩
      · rw [← ei]
        rfl
      · obtain ⟨o, S, po, ho, hS⟩ := hlev6 j' a hja
        exact ⟨o, S, po, s9 _ _ (s8 _ _ ho), hS⟩
end
end Own
namespace Own
open PySem PySem.Spec PyProof.Rows L2
theorem tYes_if {σ : L2.St} {H : Hp} {A B : Hp → Prop} (h : A H) : tYes σ H fun b H3 => if b = true then A H3 else B H3 := h
theorem at_neg1 {α : Type} {xs : List α} {N : Nat} {v : α} (hl : xs.length = N + 1) (h : xs[N]? = some v) : atI xs (-1) = some v := by
  have e : xs = xs.take N ++ [v] := by
    have h1 : xs.take (N + 1) = xs := List.take_of_length_le (by omega)
    have h2 := List.take_add_one (l := xs) (i := N)
    rw [h, h1] at h2
    exact h2
  rw [e]
  exact atI_last _ _
theorem putD_new {D : Cs} {t v : Nat} (h : t ∉ keys D) : putD D t v = D ++ [(t, v)] := by
  induction D with
  | nil => rfl
  | cons p r ih =>
    obtain ⟨a, b⟩ := p
    have e : a ≠ t := fun z => h (z ▸ List.mem_cons_self)
    rw [putD, if_neg e, ih fun z => h (List.mem_cons_of_mem _ z)]
    rfl
theorem val_map {S : List Nat} (g : Nat → Nat) (t : Nat) : val (S.map fun s => (s, g s)) t = if t ∈ S then g t else 0 := by
  induction S with
  | nil => rfl
  | cons a r ih =>
    rw [List.map_cons, val, ih]
    by_cases e : a = t
    · subst e
      rw [if_pos rfl, if_pos List.mem_cons_self]
    · rw [if_neg e]
      by_cases h : t ∈ r
      · rw [if_pos h, if_pos (List.mem_cons_of_mem _ h)]
      · rw [if_neg h, if_neg (fun z => (List.mem_cons.mp z).elim (fun q => e q.symm) h)]
theorem keys_map {S : List Nat} (g : Nat → Nat) : keys (S.map fun s => (s, g s)) = S := by
  unfold keys
  rw [List.map_map]
  exact List.map_id _
theorem W_zero (T : Tab) (k s : Nat) : (T.W k s 0).length = if T.fin s = true then 1 else 0 := by
  unfold Tab.W texts
  rw [List.filter_cons]
  show (if T.fin s = true then _ else _ : List Word).length = _
  by_cases h : T.fin s = true
  · rw [if_pos h, if_pos h]
    rfl
  · rw [if_neg h, if_neg h]
    rfl
theorem W_len_succ (T : Tab) (k s m : Nat) : (T.W k s (m + 1)).length = ((List.range k).map fun l => (T.W k (T.st s l) m).length).sum := by
  rw [W_succ, List.length_flatMap]
  simp only [List.length_map]
theorem useful_of_W {T : Tab} {k s m : Nat} (h : (T.W k s m).length ≠ 0) : Useful T k s := by
  obtain ⟨u, hu⟩ := List.exists_mem_of_length_pos (Nat.pos_of_ne_zero h)
  obtain ⟨_, h2, h3⟩ := mem_W.mp hu
  exact ⟨u, h2, h3⟩
theorem LevS.lt {T : Tab} {k n j : Nat} {S : List Nat} (h : LevS T k n j S) : S.length ≤ n := nodup_lt_length n h.nd fun s hs => ((h.iff s).mp hs).1
theorem LevS.step {T : Tab} {k n j s l m : Nat} {S S' : List Nat} (O : T.Ok k n) (h : LevS T k n j S) (h' : LevS T k n (j + 1) S') (hs : s ∈ S) (hl : l < k) (hne : (T.W k (T.st s l) m).length ≠ 0) : T.st s l ∈ S' := by
  obtain ⟨h1, _, u, hu, e⟩ := (h.iff s).mp hs
  refine (h'.iff _).mpr ⟨O.st_lt h1 hl, useful_of_W hne, u ++ [l], ?_, ?_⟩
  · obtain ⟨a, b⟩ := mem_texts.mp hu
    refine mem_texts.mpr ⟨by rw [List.length_append, a]; rfl, fun x hx => ?_⟩
    rcases List.mem_append.mp hx with q | q
    · exact b x q
    · rw [List.mem_singleton.mp q]
      exact hl
  · rw [Tab.run_append, e]
    rfl
theorem sum_int_nat (f : Nat → Nat) : ∀ m, ((List.range m).map fun l => ((f l : Nat) : Int)).sum = (((List.range m).map f).sum : Nat)
  | 0 => rfl
  | m + 1 => by
    rw [List.range_succ, List.map_append, List.map_append, List.sum_append, List.sum_append, sum_int_nat f m]
    simp
theorem getD_at {S : List Nat} {i s : Nat} (h : S[i]? = some s) : S.getD i 0 = s := by rw [List.getD_eq_getElem?_getD, h, Option.getD_some]
section
variable {P : Program} {w : World} {K : PySem.W.Frag} {mg : Str → Option Value} {base : Heap}
abbrev s_counts_left : Stmt := topS 40
theorem sc_counts_left : FnScope ["table", "levels", "rows", "ends", "counts", "at", "behind", "place", "stand", "later"] ["table", "levels"] (defScope s_counts_left) := ⟨rfl, rfl, rfl, by decide +kernel, rfl, by decide +kernel, by decide +kernel⟩
def sp_counts_left (K : PySem.W.Frag) : Sp := fun vs H Q _ => ∃ (t r e lv : Addr) (T : Tab) (k n N : Nat) (ads : List Addr), vs = [.ref t, .ref lv] ∧ TabAt K H t r e T ∧ T.Ok k n ∧ H lv = some (.lst (ads.map V.ref)) ∧ ads.length = N + 1 ∧ N ≤ 1000000 ∧
  (∀ (j : Nat) (a : Addr), ads[j]? = some a → LevAt H T k n j a) ∧
  ∀ (c : Addr) (cs : List Addr) (H' : Hp), Same H H' → H c = none → H' c = some (.lst (cs.map V.ref)) → cs.length = N + 1 →
    (∀ (j : Nat) (ca a : Addr) (o : Obj) (S : List Nat), cs[j]? = some ca → ads[j]? = some a → H a = some (.frz o (.tup (S.map nV))) → H' ca = some (.tup (S.map fun s => nV (T.W k s (N - j)).length))) → Q (.ref c) H'
theorem ok_counts_left {f : Addr} {fd : FuncData} (F : Fun K "_counts_left" "_counts_left" s_counts_left f fd) (B : Bt mg) : FnOk P w K mg base CX0 1 f fd ["table", "levels"] (sp_counts_left K) := by
  refine F.ok sc_counts_left (fun vs H Q E h => ?_) (fun cdv A outer s0 H vs Q E hr h => ?_)
  · obtain ⟨t, r, e, lv, T, k, n, N, ads, rfl, _⟩ := h
    rfl
  obtain ⟨t, r, e, lv, T, k, n, N, ads, rfl, A1, O, hlv, hads, hN, hlev, q⟩ := h
  have h40 := O.n40
  have hk3 := O.k3
  refine ⟨_, (pss_cons (ps_asg (pv 0) (g_tup K 2 (pgs_cons (pg_name (i := 2) sc_counts_left.nd rfl (Or.inr rfl)) (pgs_cons (pg_name (i := 3) sc_counts_left.nd rfl (Or.inr rfl)) pgs_nil)))) (pss_cons (ps_set (i := 4) sc_counts_left.nd rfl (Or.inr rfl) (pe_lst (pa_cons (pe_callTy (c_tup K) (by rfl) B.tuple bt_tuple (pa_cons (pe_lc (own := [("stand", 8)]) rfl sc_counts_left.nd (p_tup K (p_ixl K (pv 1) (pe_un un_neg pe_int))) (blkOk_by (by kernel_rfl)) (fun _ _ _ _ _ => (pg_name (i := 8) sc_counts_left.nd rfl (Or.inl rfl))) (fun _ _ _ _ _ => pts_nil) (fun _ _ _ _ _ => (pe_ifExp (pt_val (p_ixt K (pv 3) (pv 8))) pe_int pe_int))) pa_nil)) pa_nil))) (pss_cons (ps_for PassesOwn.never rfl (pi_range3 (by rfl) B.range (pa_cons (pe_op op_sub (pe_callB (c_len K) (by rfl) B.len bt_len (pa_cons (pv 1) pa_nil)) pe_int) (pa_cons (pe_un un_neg pe_int) (pa_cons (pe_un un_neg pe_int) pa_nil)))) (pg_name (i := 5) sc_counts_left.nd rfl (Or.inl rfl)) (pss_cons (ps_set (i := 6) sc_counts_left.nd rfl (Or.inr rfl) (pe_dc (own := [("place", 7), ("stand", 8)]) rfl sc_counts_left.nd (pi_enumT (by rfl) B.enumerate (pa_cons (p_ixl K (pv 1) (pe_op op_add (pv 5) pe_int)) pa_nil)) (blkOk_by (by kernel_rfl)) (fun _ _ _ _ _ => (g_tup K 2 (pgs_cons (pg_name (i := 7) sc_counts_left.nd rfl (Or.inl rfl)) (pgs_cons (pg_name (i := 8) sc_counts_left.nd rfl (Or.inl rfl)) pgs_nil)))) (fun _ _ _ _ _ => pts_nil) (fun _ _ _ _ _ => (pv 8)) (fun _ _ _ _ _ => (p_ixt K (p_ixl K (pv 4) (pe_un un_neg pe_int)) (pv 7))))) (pss_one (ps_expr (p_app K (pv 4) (pa_cons (pe_callTy (c_tup K) (by rfl) B.tuple bt_tuple (pa_cons (pe_lc (own := [("stand", 8)]) rfl sc_counts_left.nd (p_tup K (p_ixl K (pv 1) (pv 5))) (blkOk_by (by kernel_rfl)) (fun _ _ _ _ _ => (pg_name (i := 8) sc_counts_left.nd rfl (Or.inl rfl))) (fun _ _ _ _ _ => pts_nil) (fun _ _ _ _ _ => (pe_callB (c_sum K) (by rfl) B.sum bt_sum (pa_cons (pe_lc (own := [("later", 9)]) rfl sc_counts_left.nd (p_tup K (p_ixt K (pv 2) (pv 8))) (blkOk_by (by kernel_rfl)) (fun _ _ _ _ _ => (pg_name (i := 9) sc_counts_left.nd rfl (Or.inl rfl))) (fun _ _ _ _ _ => pts_nil) (fun _ _ _ _ _ => (p_get (hu_of hr) (pv 6) (pv 9) pe_int))) pa_nil)))) pa_nil)) pa_nil)))))) (pss_cons (ps_expr (pe_bm0 PySem.F.plainAttrs_list PySem.F.slot_list_reverse PySem.F.type_list_reverse mt_reverse (pv 4))) (pss_one (ps_ret (pv 4))))))), ?_⟩
  have lev : ∀ j, j ≤ N → ∃ a o S, ads[j]? = some a ∧ (ads.map V.ref)[j]? = some (.ref a) ∧ H a = some (.frz o (.tup (S.map nV))) ∧ LevS T k n j S := by
    intro j hj
    have hj2 : j < ads.length := by omega
    obtain ⟨o, S, po, ho, hS⟩ := hlev j ads[j] (List.getElem?_eq_getElem hj2)
    exact ⟨ads[j], o, S, List.getElem?_eq_getElem hj2, by rw [List.getElem?_map, List.getElem?_eq_getElem hj2]; rfl, ho, hS⟩
  have hal : (ads.map V.ref).length = N + 1 := by rw [List.length_map, hads]
  obtain ⟨aN, oN, SN, eN, eN', hoN, hSN⟩ := lev N (Nat.le_refl _)
  refine ⟨_, rfl, t, _, rfl, A1.top, rfl, _, _, rfl, _, _, rfl, rfl, ?_⟩
  -- counts = [tuple([1 if ends[stand] else 0 for stand in levels[-1]])]
  refine ⟨_, rfl, _, rfl, lv, _, _, _, rfl, rfl, SqL.of hlv, at_neg1 hal eN', aN, rfl, ⟨_, .inl (.inr ⟨oN, hoN⟩)⟩, fun D nD => ?_⟩
  refine lc_map (walk_tup (K := K) (a := aN) (xs := SN.map nV)) nD (fun i => nV (T.W k (SN.getD i 0) 0).length) (by rw [List.length_map]; exact small1000 (by have := hSN.lt; omega)) (fun H1 s1 => .inl (.inr ⟨oN, s1 _ _ hoN⟩)) ?_ ?_
  · rintro i x H1 H2 hi s1 ⟨rfl, hx⟩ R hR
    rw [List.length_map] at hi
    have ei : SN[i]? = some SN[i] := List.getElem?_eq_getElem hi
    rw [List.getElem?_map, ei] at hx
    obtain rfl : nV SN[i] = x := Option.some.inj hx
    have hsn := ((hSN.iff SN[i]).mp (List.getElem_mem hi)).1
    refine ⟨rfl, _, rfl, _, rfl, e, _, _, _, rfl, rfl, Same.tup s1 A1.ends, O.at_fin hsn, T.fin SN[i], rfl, ?_⟩
    have z := hR H2 (Same.refl _)
    rw [getD_at ei, W_zero] at z
    cases hf : T.fin SN[i] with
    | true =>
      rw [hf, if_pos rfl] at z
      exact iteT z
    | false =>
      rw [hf, if_neg Bool.false_ne_true] at z
      exact iteF z
  intro H1 s1 e1
  refine ⟨D, _, rfl, SqL.of e1, fun ta nta => ?_⟩
  have s2 := s1.trans (same_new nta (.tup ((List.range (SN.map nV).length).map fun i => nV (T.W k (SN.getD i 0) 0).length)))
  refine ⟨(show 1 ≤ sizeLine by decide), fun c nc => ?_⟩
  have s3 := s2.trans (same_new nc (.lst [V.ref ta]))
  have nc0 : H c = none := s2.free nc
  have e0 : (List.range (SN.map nV).length).map (fun i => nV (T.W k (SN.getD i 0) 0).length) = SN.map fun s => nV (T.W k s 0).length := by
    rw [List.length_map]
    exact map_range_get SN _ _ fun i x hx => by rw [getD_at hx]
  refine ⟨_, rfl, lv, _, rfl, .inl (SqL.of (s3 _ _ hlv)), _, _, rfl, rfl, _, rfl, _, rfl, _, _, _, _, rfl, RgC.neg (by rw [hal]; omega) (by rw [hal]; omega) (by decide) (by decide), ?_⟩
  refine for_rangeC (fun i σ H2 => i ≤ N ∧ ∃ (cl : List Addr) (v5 v6 : Option V), cl.length = i + 1 ∧ σ = [some (.ref t), some (.ref lv), some (.ref r), some (.ref e), some (.ref c), v5, v6, none, none, none] ∧ Same H H2 ∧ H2 c = some (.lst (cl.map V.ref)) ∧
      ∀ (q : Nat) (ca a : Addr) (o : Obj) (S : List Nat), cl[q]? = some ca → ads[N - q]? = some a → H a = some (.frz o (.tup (S.map nV))) → H2 ca = some (.tup (S.map fun s => nV (T.W k s q).length)))
    ⟨Nat.zero_le _, [ta], none, none, rfl, rfl, s3, upd_same, ?_⟩ ?_ ?_
  · intro q ca a o S hq ha hS
    cases q with
    | zero =>
      obtain rfl : ta = ca := by simpa using hq
      rw [Nat.sub_zero, eN] at ha
      obtain rfl := Option.some.inj ha
      rw [hoN] at hS
      have hS := Option.some.inj hS
      have eS : SN = S := by
        have z : SN.map nV = S.map nV := by
          injection hS with _ h2
          injection h2
        exact (List.map_inj_right fun a b h => by
          have h : ((a : Nat) : Int) = (b : Nat) := V.int.inj h
          omega).mp z
      rw [← eS, ← e0]
      exact same_new nc _ _ _ upd_same
    | succ q => simp at hq
  · rintro i σ H2 hi ⟨hiN, cl, v5, v6, hcl, rfl, s4, hc4, hcs⟩
    have hi : i < N := by
      rw [hal] at hi
      omega
    have eat : V.int ((((ads.map V.ref).length : Nat) : Int) - 2 + (i : Nat) * -1) = nV (N - 1 - i) := by
      rw [hal]
      exact congrArg V.int (by omega)
    obtain ⟨a1, o1, S1, g1, g1', ho1, hS1⟩ := lev (N - i) (by omega)
    obtain ⟨a0, o0, S0, g0, g0', ho0, hS0⟩ := lev (N - 1 - i) (by omega)
    have hcl' : (cl.map V.ref).length = i + 1 := by rw [List.length_map, hcl]
    have hci : i < cl.length := by omega
    have ecl : cl[i]? = some cl[i] := List.getElem?_eq_getElem hci
    have hca := hcs i cl[i] a1 o1 S1 ecl g1 ho1
    show gName 5 (V.int ((((ads.map V.ref).length : Nat) : Int) - 2 + (i : Nat) * -1)) _ _ _
    rw [eat]
    -- behind = {stand: counts[-1][place] for place, stand in enumerate(levels[at + 1])}
    refine ⟨_, rfl, _, rfl, _, _, rfl, rfl, lv, _, _, _, rfl, rfl, SqL.of (s4 _ _ hlv), (?_ : atI _ _ = some (V.ref a1)), ?_⟩
    · have e9 : ((N - 1 - i : Nat) : Int) + 1 = ((N - i : Nat) : Int) := by omega
      show atI (ads.map V.ref) (((N - 1 - i : Nat) : Int) + 1) = _
      rw [e9]
      exact atI_nat g1'
    refine ⟨a1, _, rfl, .inl (.inr ⟨o1, s4 _ _ ho1⟩), fun Db nDb => ?_⟩
    refine dc_it (walk_enumT (K := K) (a := a1) (xs := S1.map nV)) (fun q H3 => Same H2 H3 ∧ H3 Db = some (.dK (kD ((S1.take q).map fun s => (s, (T.W k s i).length))))) ⟨same_new nDb _, upd_same⟩ (fun q H3 _ h => .inl (.inr ⟨o1, h.1 _ _ (s4 _ _ ho1)⟩)) ?_ ?_
    · rintro q x H3 H3' hq ⟨s5, hb5⟩ ⟨Tp, x1, x2, rfl, nT, rfl, f1, f2⟩
      rw [List.length_map] at hq
      have eq1 : S1[q]? = some S1[q] := List.getElem?_eq_getElem hq
      obtain rfl : V.int (q : Nat) = x1 := Option.some.inj f1
      have f2 : (S1.map nV)[q]? = some x2 := f2
      rw [List.getElem?_map, eq1] at f2
      obtain rfl : nV S1[q] = x2 := Option.some.inj f2
      have s6 : Same H3 (upd H3 Tp (.tup [.int (q : Nat), nV S1[q]])) := same_new nT _
      refine ⟨Tp, _, rfl, SqT.new, rfl, _, _, rfl, _, _, rfl, rfl, rfl, ?_⟩
      refine tYes_if ?_
      refine ⟨_, rfl, _, rfl, _, rfl, c, _, _, _, rfl, rfl, SqL.of (s6 _ _ (s5 _ _ hc4)), at_neg1 hcl' (by rw [List.getElem?_map, ecl]; rfl), _, rfl, cl[i], _, _, _, rfl, rfl, .inl (.inl (s6 _ _ (s5 _ _ hca))), atI_nat (v := nV (T.W k S1[q] i).length) ?_, ?_⟩
      · rw [List.getElem?_map, eq1]
        rfl
      have hnd : (keys ((S1.take q).map fun s => (s, (T.W k s i).length))).Nodup := by
        rw [keys_map]
        exact (List.take_sublist q S1).nodup hS1.nd
      have hnot : S1[q] ∉ keys ((S1.take q).map fun s => (s, (T.W k s i).length)) := by
        rw [keys_map]
        intro hm
        obtain ⟨z, hz, ez⟩ := List.getElem_of_mem hm
        rw [List.length_take] at hz
        rw [List.getElem_take] at ez
        have := (List.getElem_inj hS1.nd).mp ez
        omega
      refine ⟨_, kK S1[q], rfl, s6 _ _ hb5, ?_, fun b o hb => ?_, ?_⟩
      · rw [kD_length, List.length_map, List.length_take]
        exact small1000 (by have := hS1.lt; omega)
      · rw [upd_ne (ne_of_none hb nDb)]
        exact s6 _ _ (s5 _ _ hb)
      · rw [upd_same, kD_put hnd, putD_new hnot, List.take_add_one, eq1, List.map_append]
        rfl
    intro H3 ⟨s5, hb5⟩
    rw [List.length_map, List.take_length] at hb5
    -- counts.append(tuple([sum([behind.get(later, 0) for later in rows[stand]]) for stand in levels[at]]))
    have s45 := s4.trans s5
    refine ⟨_, rfl, .inl ⟨rfl, _, SqL.of (s5 _ _ hc4)⟩, _, rfl, _, rfl, lv, _, _, _, rfl, rfl, SqL.of (s45 _ _ hlv), atI_nat g0', a0, rfl, ⟨_, .inl (.inr ⟨o0, s45 _ _ ho0⟩)⟩, fun D2 nD2 => ?_⟩
    refine lc_map (walk_tup (K := K) (a := a0) (xs := S0.map nV)) nD2 (fun q => nV (T.W k (S0.getD q 0) (i + 1)).length) (by rw [List.length_map]; exact small1000 (by have := hS0.lt; omega)) (fun H4 s6 => .inl (.inr ⟨o0, s6 _ _ (s45 _ _ ho0)⟩)) ?_ ?_
    · rintro q x H4 H5 hq s6 ⟨rfl, hx⟩ R hR
      rw [List.length_map] at hq
      have eq0 : S0[q]? = some S0[q] := List.getElem?_eq_getElem hq
      rw [List.getElem?_map, eq0] at hx
      obtain rfl : nV S0[q] = x := Option.some.inj hx
      have hm0 : S0[q] ∈ S0 := List.getElem_mem hq
      have hsn := ((hS0.iff S0[q]).mp hm0).1
      have s46 := s45.trans s6
      obtain ⟨as, h1, hasl, row⟩ := (A1.rows.same s46).opened O
      obtain ⟨ra, r1, r2⟩ := row S0[q] hsn
      have hrl : ((T.rows.getD S0[q] []).map nV).length = k := by rw [List.length_map, O.rowlen hsn]
      refine ⟨rfl, _, rfl, _, rfl, r, _, _, _, rfl, rfl, h1, atI_nat r1, ra, rfl, ⟨_, r2⟩, fun D3 nD3 => ?_⟩
      refine lc_map (walk_tup (K := K) (a := ra) (xs := (T.rows.getD S0[q] []).map nV)) nD3 (fun l => nV (T.W k (T.st S0[q] l) i).length) (by rw [hrl]; exact small1000 (by omega)) (fun H6 s7 => Same.tup s7 r2) ?_ ?_
      · rintro l x H6 H7 hl s7 ⟨rfl, hx⟩ R2 hR2
        have hlk : l < k := by omega
        have hst := O.at_st hsn hlk
        rw [atI_nat (List.getElem?_eq_getElem hl)] at hst
        rw [List.getElem?_eq_getElem hl] at hx
        obtain rfl : x = nV (T.st S0[q] l) := (Option.some.inj hx).symm.trans (Option.some.inj hst)
        refine ⟨rfl, _, rfl, Db, rfl, .inl ⟨_, .inl (s7 _ _ (s6 _ _ hb5))⟩, _, rfl, _, DGet.k (k := kK (T.st S0[q] l)) (s7 _ _ (s6 _ _ hb5)), ?_⟩
        have eo : (valV (kD (S1.map fun s => (s, (T.W k s i).length))) (kK (T.st S0[q] l))).getD (V.int 0) = nV (T.W k (T.st S0[q] l) i).length := by
          rw [kD_val, keys_map, val_map]
          by_cases hin : T.st S0[q] l ∈ S1
          · rw [if_pos hin, if_pos hin]
            rfl
          · rw [if_neg hin]
            have hz : (T.W k (T.st S0[q] l) i).length = 0 := Classical.byContradiction fun hne => hin (by
              have e8 : N - 1 - i + 1 = N - i := by omega
              exact LevS.step O hS0 (by rw [e8]; exact hS1) hm0 hlk hne)
            rw [hz]
            rfl
        rw [eo]
        exact hR2 H7 (Same.refl _)
      · intro H6 s7 e7
        refine ⟨D3, (List.range ((T.rows.getD S0[q] []).map nV).length).map fun l => (((T.W k (T.st S0[q] l) i).length : Nat) : Int), rfl, SqL.of (by rw [e7, List.map_map]; rfl), ?_⟩
        have z := hR H6 s7
        rw [getD_at eq0, W_len_succ] at z
        rw [sum_int_nat (fun l => (T.W k (T.st S0[q] l) i).length), hrl]
        exact z
    intro H4 s6 e6
    refine ⟨D2, _, rfl, SqL.of e6, fun tb ntb => ?_⟩
    have e7 : (List.range (S0.map nV).length).map (fun q => nV (T.W k (S0.getD q 0) (i + 1)).length) = S0.map fun s => nV (T.W k s (i + 1)).length := by
      rw [List.length_map]
      exact map_range_get S0 _ _ fun i x hx => by rw [getD_at hx]
    rw [e7]
    have s7 : Same H4 (upd H4 tb (.tup (S0.map fun s => nV (T.W k s (i + 1)).length))) := same_new ntb _
    have hc7 := s7 _ _ (s6 _ _ (s5 _ _ hc4))
    refine ⟨c, _, _, rfl, rfl, hc7, ?_, ?_⟩
    · rw [hcl', sizeLine_eq]
      omega
    refine ⟨by omega, cl ++ [tb], _, _, by rw [List.length_append, hcl]; rfl, rfl, fun b o hb => ?_, ?_, ?_⟩
    · rw [upd_ne (ne_of_none hb nc0)]
      exact s7 _ _ (s6 _ _ (s45 _ _ hb))
    · rw [upd_same, List.map_append]
      rfl
    · intro q ca a o S hq ha hS
      by_cases hlt : q < cl.length
      · rw [List.getElem?_append_left hlt] at hq
        have z := hcs q ca a o S hq ha hS
        rw [upd_ne (ne_of z hc4 (fun z => nomatch z))]
        exact s7 _ _ (s6 _ _ (s5 _ _ z))
      · rw [List.getElem?_append_right (by omega)] at hq
        have hz : q - cl.length = 0 := by
          have := (List.getElem?_eq_some_iff.mp hq).1
          simp at this
          omega
        rw [hz] at hq
        obtain rfl : tb = ca := by simpa using hq
        have hqi : q = i + 1 := by omega
        subst hqi
        have e8 : N - (i + 1) = N - 1 - i := by omega
        rw [e8, g0] at ha
        obtain rfl := Option.some.inj ha
        rw [ho0] at hS
        have hS := Option.some.inj hS
        have eS : S0 = S := by
          have z : S0.map nV = S.map nV := by
            injection hS with _ h2
            injection h2
          exact (List.map_inj_right fun a b h => by
            have h : ((a : Nat) : Int) = (b : Nat) := V.int.inj h
            omega).mp z
        have nctb : c ≠ tb := ne_of_none (s6 _ _ (s5 _ _ hc4)) ntb
        rw [← eS, upd_ne nctb.symm]
        exact upd_same
  · rintro σ H2 ⟨hiN, cl, v5, v6, hcl, rfl, s4, hc4, hcs⟩
    have hNn : ((((ads.map V.ref).length : Nat) : Int) - 2 - -1).toNat = N := by
      rw [hal]
      omega
    rw [hNn] at hcl
    refine ⟨_, rfl, .inl ⟨rfl, _, SqL.of hc4⟩, c, _, rfl, rfl, hc4, ?_⟩
    refine ⟨_, rfl, q c cl.reverse _ (fun b o hb => ?_) nc0 ?_ (by rw [List.length_reverse, hcl]) fun j ca a o S hj ha hS => ?_⟩
    · rw [upd_ne (ne_of_none hb nc0)]
      exact s4 _ _ hb
    · rw [upd_same, List.map_reverse]
    · have hjN : j ≤ N := by
        have := (List.getElem?_eq_some_iff.mp ha).1
        omega
      rw [List.getElem?_reverse (by omega)] at hj
      have e9 : cl.length - 1 - j = N - j := by omega
      rw [e9] at hj
      have e10 : N - (N - j) = j := by omega
      have z := hcs (N - j) ca a o S hj (by rw [e10]; exact ha) hS
      rw [upd_ne (ne_of z hc4 (fun z => nomatch z))]
      exact z
end
end Own
namespace Own
open PySem PySem.Spec PyProof.Rows L2
theorem ifv {α β γ δ : Type} {c : Bool} {a b : α → β → (γ → δ → Prop) → Prop} {σ : α} {H : β} {k : γ → δ → Prop} (v : γ) (H2 : δ) (main : c = true → k v H2 → a σ H k) (els : c = false → k v H2 → b σ H k) (rest : k v H2) :
    if c = true then a σ H k else b σ H k := by
  cases c with
  | true => exact main rfl rest
  | false => exact els rfl rest
theorem flat_one (pre : Word) : (pre.map fun l => [l]).flatten = pre := by
  induction pre with
  | nil => rfl
  | cons a r ih =>
    rw [List.map_cons, List.flatten_cons, ih]
    rfl
theorem len_one (pre : Word) : (((pre.map fun l => [l]).map tx).map (·.length)).sum = pre.length := by
  induction pre with
  | nil => rfl
  | cons a r ih =>
    rw [List.map_cons, List.map_cons, List.map_cons, List.sum_cons, ih, tx_length, List.length_cons, List.length_cons]
    simp
    omega
theorem inV_nV (S : List Nat) (t : Nat) : inV (nV t) (S.map nV) = decide (t ∈ S) := by
  unfold inV
  rw [Bool.eq_iff_iff, List.any_eq_true, decide_eq_true_eq]
  constructor
  · rintro ⟨x, hx, h⟩
    obtain ⟨s, hs, rfl⟩ := List.mem_map.mp hx
    have e : ((s : Nat) : Int) = (t : Nat) := by simpa [eqV, nV] using h
    have e2 : s = t := by omega
    rw [← e2]
    exact hs
  · intro h
    exact ⟨nV t, List.mem_map.mpr ⟨t, h, rfl⟩, by simp [eqV, nV]⟩
theorem flat_nV (S : List Nat) : (S.map nV).all flatV = true := by
  rw [List.all_map]
  exact List.all_eq_true.mpr fun _ _ => rfl
theorem idx_int (S : List Nat) (t : Nat) : (S.map fun s => ((s : Nat) : Int)).idxOf ((t : Nat) : Int) = S.idxOf t := by
  induction S with
  | nil => rfl
  | cons a r ih =>
    rw [List.map_cons, List.idxOf_cons, List.idxOf_cons, ih]
    have e : (((a : Nat) : Int) == ((t : Nat) : Int)) = (a == t) := by
      rw [Bool.eq_iff_iff, beq_iff_eq, beq_iff_eq]
      omega
    rw [e]
theorem at_idx (S : List Nat) (f : Nat → V) {t : Nat} (h : t ∈ S) : (S.map f)[S.idxOf t]? = some (f t) := by
  have h1 : S.idxOf t < S.length := List.idxOf_lt_length_of_mem h
  rw [List.getElem?_map, List.getElem?_eq_getElem h1, List.getElem_idxOf h1]
  rfl
/-- what is left of an index, letter by letter -/
theorem unrank {T : Tab} {k s m : Nat} {rest : Word} : ∀ (d l lft : Nat), l + d = k → ((List.range' l d).flatMap fun a => (T.W k (T.st s a) m).map (a :: ·))[lft]? = some rest →
    0 < d ∧ (lft < (T.W k (T.st s l) m).length → ∃ v, rest = l :: v ∧ (T.W k (T.st s l) m)[lft]? = some v) ∧
    (¬ lft < (T.W k (T.st s l) m).length → ((List.range' (l + 1) (d - 1)).flatMap fun a => (T.W k (T.st s a) m).map (a :: ·))[lft - (T.W k (T.st s l) m).length]? = some rest)
  | 0, l, lft, _, h => by simp at h
  | d + 1, l, lft, _, h => by
    rw [List.range'_succ, List.flatMap_cons] at h
    refine ⟨by omega, fun hl => ?_, fun hl => ?_⟩
    · rw [List.getElem?_append_left (by rw [List.length_map]; exact hl), List.getElem?_map] at h
      cases e : (T.W k (T.st s l) m)[lft]? with
      | none =>
        rw [e] at h
        cases h
      | some v =>
        rw [e] at h
        exact ⟨v, (Option.some.inj h).symm, rfl⟩
    · rw [List.getElem?_append_right (by rw [List.length_map]; omega), List.length_map] at h
      exact h
theorem W_range (T : Tab) (k s m : Nat) : T.W k s (m + 1) = (List.range' 0 k).flatMap fun a => (T.W k (T.st s a) m).map (a :: ·) := by
  rw [W_succ, List.range_eq_range']
section
variable {P : Program} {w : World} {K : PySem.W.Frag} {mg : Str → Option Value} {base : Heap}
abbrev s_nth_word : Stmt := topS 32
theorem sc_nth_word : FnScope ["table", "index", "levels", "left", "counts", "stand", "letters", "at", "letter", "later", "many"] ["table", "index"] (defScope s_nth_word) := ⟨rfl, rfl, rfl, by decide +kernel, rfl, by decide +kernel, by decide +kernel⟩
def sp_nth_word (K : PySem.W.Frag) (C : Addr) : Sp := fun vs H Q E => ∃ (t r e : Addr) (T : Tab) (k n : Nat) (i : Int), vs = [.ref t, .int i] ∧ TabAt K H t r e T ∧ T.Ok k n ∧
  ((∃ (i' N lft : Nat) (u : Word), i = (i' : Int) ∧ i' ≤ 9999 ∧ N ≤ 1000000 ∧ sumW T k N + lft = i' ∧ (T.W k 0 N)[lft]? = some u ∧ ∀ H', Same H H' → Q (.str (tx u)) H') ∨
   (i < 0 ∧ ∀ H', Same H H' → E (.ref C) none H') ∨
   (∃ (i' m : Nat), i = (i' : Int) ∧ m ≤ 1000000 ∧ ¬ Alive T k m ∧ sumW T k m ≤ i' ∧ ∀ H', Same H H' → E (.ref C) none H'))
theorem ok_nth_word {f C : Addr} {fd : FuncData} (F : Fun K "nth_word" "nth_word" s_nth_word f fd) (B : Bt mg) (TB : ExcT K mg "BadIndex" C) (C_check_table : Got P w K mg base CX0 5 "check_table" ["table"] (sp_check_table K)) (C_is_between : Got P w K mg base CX0 2 "is_between" ["value", "low", "high"] sp_is_between)
    (C_levels_to : GotX P w K mg base 3 "_levels_to" ["table", "index"] (sp_levels_to K C)) (C_counts_left : Got P w K mg base CX0 1 "_counts_left" ["table", "levels"] (sp_counts_left K)) : FnOk P w K mg base (L2.CX P w) 6 f fd ["table", "index"] (sp_nth_word K C) := by
  refine F.okX sc_nth_word (fun vs H Q E h => ?_) (fun cdv A outer s0 H vs Q E hr h => ?_)
  · obtain ⟨t, r, e, T, k, n, i, rfl, _⟩ := h
    rfl
  obtain ⟨t, r, e, T, k, n, i, rfl, A1, O, h3⟩ := h
  have hr1 : Room 1 _ := hr.mono (by decide)
  have hr2 : Room 2 _ := hr.mono (by decide)
  have hr3 : Room 3 _ := hr.mono (by decide)
  have hk3 := O.k3
  refine ⟨_, (pss_cons (ps_expr (C_check_table.call hr (by rfl) (pa_cons (pv 0) pa_nil))) (pss_cons (ps_if (pt_not (pt_val (C_is_between.call hr2 (by rfl) (pa_cons (pv 1) (pa_cons pe_int (pa_cons (pe_g (by rfl) B.gIndex) pa_nil)))))) (pss_one (p_raise TB (takes_of rfl rfl rfl rfl) (by rfl))) pss_nil) (pss_cons (ps_asg (C_levels_to.callX (takes_of rfl rfl rfl rfl) hr3 (by rfl) (pa_cons (pv 0) (pa_cons (pv 1) pa_nil))) (g_tup K 2 (pgs_cons (pg_name (i := 2) sc_nth_word.nd rfl (Or.inl rfl)) (pgs_cons (pg_name (i := 3) sc_nth_word.nd rfl (Or.inl rfl)) pgs_nil)))) (pss_cons (ps_set (i := 4) sc_nth_word.nd rfl (Or.inl rfl) (C_counts_left.call hr1 (by rfl) (pa_cons (pv 0) (pa_cons (pv 2) pa_nil)))) (pss_cons (ps_set (i := 5) sc_nth_word.nd rfl (Or.inl rfl) pe_int) (pss_cons (ps_set (i := 6) sc_nth_word.nd rfl (Or.inl rfl) (pe_lst pa_nil)) (pss_cons (ps_for (passes_of rfl) rfl (pi_range2 (by rfl) B.range (pa_cons pe_int (pa_cons (pe_callB (c_len K) (by rfl) B.len bt_len (pa_cons (pv 2) pa_nil)) pa_nil))) (pg_name (i := 7) sc_nth_word.nd rfl (Or.inl rfl)) (pss_one (ps_for (passes_of rfl) rfl (pi_enumT (by rfl) B.enumerate (pa_cons (p_ixt K (p_ixt K (pv 0) pe_int) (pv 5)) pa_nil)) (g_tup K 2 (pgs_cons (pg_name (i := 8) sc_nth_word.nd rfl (Or.inl rfl)) (pgs_cons (pg_name (i := 9) sc_nth_word.nd rfl (Or.inl rfl)) pgs_nil))) (pss_cons (ps_set (i := 10) sc_nth_word.nd rfl (Or.inl rfl) (pe_ifExp (t_in K (pv 9) (p_ixl K (pv 2) (pv 7))) (p_ixt K (p_ixl K (pv 4) (pv 7)) (pe_tix (p_ixl K (pv 2) (pv 7)) (pa_cons (pv 9) pa_nil))) pe_int)) (pss_cons (ps_if (pt_cmpR op_lt (pv 3) (pv 10) (nomark _)) (pss_cons (ps_expr (p_app K (pv 6) (pa_cons (p_ixs (pe_g (by rfl) B.gLetters) (pv 8)) pa_nil))) (pss_cons (ps_set (i := 5) sc_nth_word.nd rfl (Or.inl rfl) (pv 9)) (pss_one ps_break))) pss_nil) (pss_one (ps_aug (i := 3) sc_nth_word.nd rfl (Or.inl rfl) (pv 10) ip_sub))))))) (pss_one (ps_ret (p_join K pe_str (pv 6))))))))))), ?_⟩
  refine ⟨_, rfl, t, r, e, T, k, n, rfl, A1, O, fun H1 s1 => ?_⟩
  refine ⟨_, rfl, i, _, _, rfl, _, rfl, ?_⟩
  by_cases hi : i < 0 ∨ 9999 < i
  · have hb : (decide ((0 : Int) ≤ i) && decide (i ≤ 9999)) = false := by
      rw [Bool.and_eq_false_iff]
      rcases hi with hi | hi
      · exact .inl (decide_eq_false (by omega))
      · exact .inr (decide_eq_false (by omega))
    rw [hb]
    refine iteT ?_
    rcases h3 with ⟨i', N, lft, u, e1, e2, _⟩ | ⟨_, q⟩ | ⟨i', m, _, _, _, _, q⟩
    · omega
    · exact q H1 s1
    · exact q H1 s1
  have hb : (decide ((0 : Int) ≤ i) && decide (i ≤ 9999)) = true := by
    rw [Bool.and_eq_true]
    exact ⟨decide_eq_true (by omega), decide_eq_true (by omega)⟩
  rw [hb]
  refine iteF ?_
  obtain ⟨i', rfl⟩ : ∃ i' : Nat, i = (i' : Int) := ⟨i.toNat, by omega⟩
  refine ⟨_, rfl, _, rfl, t, r, e, T, k, n, i', rfl, A1.same s1, O, ?_, ?_, ?_⟩
  · rcases h3 with ⟨i2, N, lft, u, e1, e2, hN, hs, hu, _⟩ | ⟨hneg, _⟩ | ⟨i2, m, e1, hm, hna, hs, _⟩
    · refine ⟨N, hN, fun j ha hj => Classical.byContradiction fun hc => ?_⟩
      have h1 := sumW_le (T := T) (k := k) (show N + 1 ≤ j by omega)
      have h2 := (List.getElem?_eq_some_iff.mp hu).1
      rw [sumW] at h1
      omega
    · omega
    · exact ⟨m, hm, fun j ha hj => Classical.byContradiction fun hc => hna (ha.le (by omega))⟩
  rotate_left
  · intro j H2 hna hj s2
    rcases h3 with ⟨i2, N, lft, u, e1, e2, hN, hs, hu, _⟩ | ⟨hneg, _⟩ | ⟨i2, m, e1, hm, hna, hs, q⟩
    · exfalso
      have h2 := (List.getElem?_eq_some_iff.mp hu).1
      obtain ⟨h4, h5, h6⟩ := mem_W.mp (List.mem_of_getElem? hu)
      have hNj : N < j := Classical.byContradiction fun hc => hna (alive_of_word h5 h6 (by omega))
      have h1 := sumW_le (T := T) (k := k) (show N + 1 ≤ j by omega)
      rw [sumW] at h1
      omega
    · omega
    · exact q H2 (s1.trans s2)
  intro N lft p lv ads H2 hsum hlft s2 hp hlv hads hlev
  obtain ⟨u, hu, hN, q⟩ : ∃ u, (T.W k 0 N)[lft]? = some u ∧ N ≤ 1000000 ∧ ∀ H', Same H H' → Q (.str (tx u)) H' := by
    rcases h3 with ⟨i2, N2, lft2, u, e1, e2, hN, hs, hu, q⟩ | ⟨hneg, _⟩ | ⟨i2, m, e1, hm, hna, hs, _⟩
    · have h2 := (List.getElem?_eq_some_iff.mp hu).1
      have hNN : N = N2 := by
        rcases Nat.lt_trichotomy N N2 with hc | hc | hc
        · have h1 := sumW_le (T := T) (k := k) (show N + 1 ≤ N2 by omega)
          rw [sumW] at h1
          omega
        · exact hc
        · have h1 := sumW_le (T := T) (k := k) (show N2 + 1 ≤ N by omega)
          rw [sumW] at h1
          omega
      subst hNN
      have hll : lft = lft2 := by omega
      subst hll
      exact ⟨u, hu, hN, q⟩
    · omega
    · exfalso
      have hmN : m ≤ N := Classical.byContradiction fun hc => by
        have h1 := sumW_le (T := T) (k := k) (show N + 1 ≤ m by omega)
        rw [sumW] at h1
        omega
      rw [not_alive_W hna hmN] at hlft
      simp at hlft
  have s12 := s1.trans s2
  refine ⟨p, _, rfl, .inl (.inl hp), rfl, _, _, rfl, _, _, rfl, rfl, ?_⟩
  refine ⟨_, rfl, _, rfl, t, r, e, lv, T, k, n, N, ads, rfl, A1.same s12, O, hlv, hads, hN, hlev, fun c cs H3 s3 nc hc hcs hcnt => ?_⟩
  refine ⟨by decide, fun ll nll => ?_⟩
  have s4 := (s12.trans s3).trans (same_new nll (.lst []))
  have nll0 : H ll = none := (s12.trans s3).free nll
  have hll3 : H3 ll = none := nll
  have s34 : Same H3 (upd H3 ll (.lst [])) := same_new nll _
  refine ⟨_, rfl, lv, _, rfl, .inl (SqL.of (s34 _ _ (s3 _ _ hlv))), _, _, rfl, ⟨by omega, by omega, by rw [List.length_map, hads]; omega, by rw [List.length_map, hads]; omega⟩, ?_⟩
  have hal : (ads.map V.ref).length = N + 1 := by rw [List.length_map, hads]
  have hNt : ((((ads.map V.ref).length : Nat) : Int) - 1).toNat = N := by
    rw [hal]
    omega
  rw [hNt]
  refine for_range (fun i σ H4 => ∃ (pre rest : Word) (lft : Nat) (v7 v8 v9 v10 : Option V), i ≤ N ∧ pre.length = i ∧ Wd k pre ∧ (T.W k (T.run 0 pre) (N - i))[lft]? = some rest ∧ pre ++ rest = u ∧
      σ = [some (.ref t), some (.int (i' : Nat)), some (.ref lv), some (nV lft), some (.ref c), some (nV (T.run 0 pre)), some (.ref ll), v7, v8, v9, v10] ∧ But ll H3 H4 ∧ H4 ll = some (.lst (pre.map fun l => V.str (sg l))))
    ⟨[], u, lft, none, none, none, none, Nat.zero_le _, rfl, fun l h => by simp at h, hu, rfl, rfl, fun b o hb he => by rw [upd_ne hb]; exact he, upd_same⟩ ?_ ?_
  · rintro i σ H4 hi ⟨pre, rest, lft, v7, v8, v9, v10, hiN, hpl, hpw, hrest, hpu, rfl, b4, hl4⟩
    have eat : V.int (1 + (i : Nat)) = nV (i + 1) := congrArg V.int (by omega)
    show gName 7 (V.int (1 + (i : Nat))) _ _ _
    rw [eat]
    have hsn := O.run_lt O.n1 hpw
    have nb : ∀ b o, H3 b = some o → b ≠ ll := fun b o h => ne_of_none h hll3
    have s4' : Same H3 H4 := fun b o h => b4 b o (nb b o h) h
    have s14 := (s12.trans s3).trans s4'
    have A4 := A1.same s14
    obtain ⟨as, h1, hasl, row⟩ := A4.rows.opened O
    obtain ⟨ra, r1, r2⟩ := row _ hsn
    have hrl : ((T.rows.getD (T.run 0 pre) []).map nV).length = k := by rw [List.length_map, O.rowlen hsn]
    -- the level at
    have hj2 : i + 1 < ads.length := by omega
    have ej : ads[i + 1]? = some ads[i + 1] := List.getElem?_eq_getElem hj2
    obtain ⟨oL, S, pL, hoL, hS⟩ := hlev (i + 1) ads[i + 1] ej
    have ej' : (ads.map V.ref)[i + 1]? = some (.ref ads[i + 1]) := by
      rw [List.getElem?_map, ej]
      rfl
    have ec : cs[i + 1]? = some (cs[i + 1]'(by omega)) := List.getElem?_eq_getElem (by omega)
    have ec' : (cs.map V.ref)[i + 1]? = some (.ref (cs[i + 1]'(by omega))) := by
      rw [List.getElem?_map, ec]
      rfl
    have hcn := hcnt (i + 1) _ _ oL S ec ej hoL
    have hrest' : ((List.range' 0 k).flatMap fun a => (T.W k (T.st (T.run 0 pre) a) (N - (i + 1))).map (a :: ·))[lft]? = some rest := by
      rw [← W_range]
      have e9 : N - (i + 1) + 1 = N - i := by omega
      rw [e9]
      exact hrest
    refine ⟨_, rfl, t, _, _, _, rfl, rfl, A4.top, rfl, _, rfl, r, _, _, _, rfl, rfl, h1, atI_nat r1, ra, _, rfl, r2, ?_⟩
    refine for_it (walk_enumT (K := K) (a := ra) (xs := (T.rows.getD (T.run 0 pre) []).map nV)) (fun l σ H5 => l ≤ k ∧ ∃ (lft : Nat) (v8 v9 v10 : Option V), ((List.range' l (k - l)).flatMap fun a => (T.W k (T.st (T.run 0 pre) a) (N - (i + 1))).map (a :: ·))[lft]? = some rest ∧
        σ = [some (.ref t), some (.int (i' : Nat)), some (.ref lv), some (nV lft), some (.ref c), some (nV (T.run 0 pre)), some (.ref ll), some (nV (i + 1)), v8, v9, v10] ∧ But ll H3 H5 ∧ SqT K H5 ra ((T.rows.getD (T.run 0 pre) []).map nV) ∧ H5 ll = some (.lst (pre.map fun l => V.str (sg l))))
      ⟨Nat.zero_le _, lft, v8, v9, v10, hrest', rfl, b4, r2, hl4⟩ (fun l σ H5 _ h => ?_) ?_ ?_
    · obtain ⟨_, _, _, _, _, _, _, _, h, _⟩ := h
      exact h
    · rintro l x σ H5 H5' hl ⟨hlk, lft, v8, v9, v10, hr5, rfl, b5, g5, hl5⟩ ⟨Tp, x1, x2, rfl, nT, rfl, f1, f2⟩
      rw [hrl] at hl
      obtain rfl : V.int (l : Nat) = x1 := Option.some.inj f1
      have f2 : ((T.rows.getD (T.run 0 pre) []).map nV)[l]? = some x2 := f2
      have hst := O.at_st hsn hl
      have hl2 : l < ((T.rows.getD (T.run 0 pre) []).map nV).length := by omega
      rw [atI_nat (List.getElem?_eq_getElem hl2)] at hst
      rw [List.getElem?_eq_getElem hl2] at f2
      obtain rfl : nV (T.st (T.run 0 pre) l) = x2 := (Option.some.inj hst).symm.trans (Option.some.inj f2)
      have s6 : Same H5 (upd H5 Tp (.tup [.int (l : Nat), nV (T.st (T.run 0 pre) l)])) := same_new nT _
      have s5' : Same H3 H5 := fun b o h => b5 b o (nb b o h) h
      have s56 := s5'.trans s6
      obtain ⟨hd0, hlt, hge⟩ := unrank (k - l) l lft (by omega) hr5
      refine ⟨Tp, _, rfl, SqT.new, rfl, _, _, rfl, _, _, rfl, rfl, ?_⟩
      have hlv6 := s56 _ _ (s3 _ _ hlv)
      have hoL6 := s56 _ _ (s3 _ _ hoL)
      have htS : T.st (T.run 0 pre) l ∉ S → (T.W k (T.st (T.run 0 pre) l) (N - (i + 1))).length = 0 := fun hin => Classical.byContradiction fun hne => hin ((hS.iff _).mpr ⟨O.st_lt hsn hl, useful_of_W hne, pre ++ [l], mem_texts.mpr ⟨by rw [List.length_append, hpl]; rfl, fun x hx => (List.mem_append.mp hx).elim (hpw x) fun q => by rw [List.mem_singleton.mp q]; exact hl⟩, by rw [Tab.run_append]; rfl⟩)
      -- many
      refine ⟨_, rfl, _, rfl, _, rfl, lv, _, _, _, rfl, rfl, SqL.of hlv6, atI_nat ej', ads[i + 1], _, rfl, .inr (.inl (.inr ⟨oL, hoL6⟩)), rfl, flat_nV S, decide (T.st (T.run 0 pre) l ∈ S), congrArg V.bl (inV_nV S _), ?_⟩
      have em : (S.map fun s => ((s : Nat) : Int)).map V.int = S.map nV := by
        rw [List.map_map]
        rfl
      refine ifv (nV (T.W k (T.st (T.run 0 pre) l) (N - (i + 1))).length) (upd H5 Tp (.tup [.int (l : Nat), nV (T.st (T.run 0 pre) l)])) (fun cc hk => ?_) (fun cc hk => ?_) ?_
      · have hin := of_decide_eq_true cc
        refine ⟨_, rfl, _, rfl, c, _, _, _, rfl, rfl, SqL.of (s56 _ _ hc), atI_nat ec', _, rfl, _, rfl, lv, _, _, _, rfl, rfl, SqL.of hlv6, atI_nat ej', ads[i + 1], oL, S.map fun s => ((s : Nat) : Int), rfl, by rw [em]; exact hoL6, pL, _, rfl, _, rfl, by rw [em]; exact hoL6, List.mem_map.mpr ⟨_, hin, rfl⟩, ?_⟩
        rw [idx_int]
        exact ⟨_, _, _, _, rfl, rfl, .inl (.inl (s56 _ _ hcn)), atI_nat (at_idx S _ hin), hk⟩
      · have hin := of_decide_eq_false cc
        have ez := htS hin
        rw [ez] at hk
        exact hk
      refine ⟨_, rfl, _, rfl, _, _, rfl, rfl, _, rfl, ite2 (fun cc => ?_) (fun cc => ?_)⟩
      · have cc : ((lft : Nat) : Int) < ((T.W k (T.st (T.run 0 pre) l) (N - (i + 1))).length : Nat) := of_decide_eq_true cc
        obtain ⟨v, ev, hv⟩ := hlt (by omega)
        have hl6 := s6 _ _ hl5
        refine ⟨_, rfl, .inl ⟨rfl, _, SqL.of hl6⟩, _, rfl, _, _, l + 97, rfl, rfl, by decide, ?_, ll, _, _, rfl, rfl, hl6, ?_, ?_⟩
        · refine atI_nat ?_
          rw [abc_eq, Array.getElem?_toList]
          exact at_abc l (by omega)
        · rw [List.length_map, sizeLine_eq]
          omega
        refine ⟨_, rfl, pre ++ [l], v, lft, some (nV (i + 1)), some (.int (l : Nat)), some (nV (T.st (T.run 0 pre) l)), some (nV (T.W k (T.st (T.run 0 pre) l) (N - (i + 1))).length), by omega, by rw [List.length_append, hpl]; rfl, fun x hx => (List.mem_append.mp hx).elim (hpw x) fun q => by rw [List.mem_singleton.mp q]; exact hl, ?_, ?_, ?_, fun b o hb he => ?_, ?_⟩
        · rw [Tab.run_append]
          exact hv
        · rw [List.append_assoc, ← hpu, ev]
          rfl
        · rw [Tab.run_append]
          rfl
        · rw [upd_ne hb]
          exact s6 _ _ (b5 b o hb he)
        · rw [upd_same, List.map_append]
          rfl
      · have cc : ¬ ((lft : Nat) : Int) < ((T.W k (T.st (T.run 0 pre) l) (N - (i + 1))).length : Nat) := of_decide_eq_false (Bool.eq_false_iff.mpr cc)
        have z := hge (by omega)
        have e9 : k - l - 1 = k - (l + 1) := by omega
        rw [e9] at z
        have ei : V.int (((lft : Nat) : Int) - ((T.W k (T.st (T.run 0 pre) l) (N - (i + 1))).length : Nat)) = nV (lft - (T.W k (T.st (T.run 0 pre) l) (N - (i + 1))).length) := congrArg V.int (by omega)
        refine ⟨_, rfl, _, rfl, _, _, rfl, rfl, by omega, _, some (.int (l : Nat)), some (nV (T.st (T.run 0 pre) l)), some (nV (T.W k (T.st (T.run 0 pre) l) (N - (i + 1))).length), z, ?_, fun b o hb he => s6 _ _ (b5 b o hb he), Same.tup s6 g5, s6 _ _ hl5⟩
        rw [← ei]
        rfl
    · rintro σ H5 ⟨hlk, lft, v8, v9, v10, hr5, rfl, b5, g5, hl5⟩
      rw [hrl, Nat.sub_self] at hr5
      simp at hr5
  · rintro σ H4 ⟨pre, rest, lft, v7, v8, v9, v10, hiN, hpl, hpw, hrest, hpu, rfl, b4, hl4⟩
    have hr0 : rest = [] := by
      rw [Nat.sub_self] at hrest
      exact List.length_eq_zero_iff.mp (mem_W.mp (List.mem_of_getElem? hrest)).1
    rw [hr0, List.append_nil] at hpu
    subst hpu
    refine ⟨⟨_, rfl⟩, _, rfl, "", ll, (pre.map fun l => [l]).map tx, rfl, rfl, .inl (SqL.of (by rw [hl4, List.map_map, List.map_map]; rfl)), ?_, ?_⟩
    · rw [len_one, empty_eq, tx_length, List.length_nil, Nat.mul_zero]
      omega
    · rw [empty_eq, join_tx, flat_one]
      exact q H4 fun b o h => b4 b o (ne_of_none ((s12.trans s3) _ _ h) hll3) ((s12.trans s3) _ _ h)
end
end Own
namespace Own
open PySem PySem.Spec PyProof.Rows L2
theorem Zs_wd {k : Nat} {u : Word} (hu : Wd k u) : ∀ i, i ≤ u.length → ∀ w, w ∈ Zs k u i → Wd k w
  | 0, _, w, h => by simp [Zs] at h
  | i + 1, hi, w, h => by
    rcases List.mem_append.mp h with h | h
    · obtain ⟨v, hv, h⟩ := List.mem_flatMap.mp h
      obtain ⟨l, hl, rfl⟩ := List.mem_map.mp h
      intro x hx
      rcases List.mem_append.mp hx with q | q
      · exact Zs_wd hu i (by omega) v hv x q
      · rw [List.mem_singleton.mp q]
        exact List.mem_range.mp hl
    · obtain ⟨l, hl, rfl⟩ := List.mem_map.mp h
      have hl := List.mem_range.mp hl
      have hi' : i < u.length := by omega
      have ha : u.getD i 0 < k := by
        rw [List.getD_eq_getElem?_getD, List.getElem?_eq_getElem hi', Option.getD_some]
        exact hu _ (List.getElem_mem hi')
      intro x hx
      rcases List.mem_append.mp hx with q | q
      · exact hu x (List.mem_of_mem_take q)
      · rw [List.mem_singleton.mp q]
        omega
section
variable {P : Program} {w : World} {K : PySem.W.Frag} {mg : Str → Option Value} {base : Heap}
abbrev s_word_index : Stmt := topS 33
theorem sc_word_index : FnScope ["table", "text", "rows", "ends", "letters", "useful", "level", "lesser", "stand", "index", "letter", "later"] ["table", "text"] (defScope s_word_index) := ⟨rfl, rfl, rfl, by decide +kernel, rfl, by decide +kernel, by decide +kernel⟩
def sp_word_index (K : PySem.W.Frag) (C : Addr) : Sp := fun vs H Q E => ∃ (t r e : Addr) (T : Tab) (k n : Nat) (u : Word), vs = [.ref t, .str (tx u)] ∧ TabAt K H t r e T ∧ T.Ok k n ∧ Wd k u ∧ u.length ≤ 100000 ∧
  (T.acc 0 u = true → ∀ H', Same H H' → Q (nV (rank T k u)) H') ∧ (T.acc 0 u = false → ∀ H', Same H H' → E (.ref C) none H')
theorem ok_word_index {f C : Addr} {fd : FuncData} (F : Fun K "word_index" "word_index" s_word_index f fd) (B : Bt mg) (TB : ExcT K mg "NoWord" C) (C_check_table : Got P w K mg base CX0 5 "check_table" ["table"] (sp_check_table K)) (C_check_text : Got P w K mg base CX0 2 "check_text" ["size", "text"] sp_check_text)
    (C_table_size : Got P w K mg base CX0 1 "table_size" ["table"] (sp_table_size K)) (C_letter_numbers : Got P w K mg base CX0 1 "letter_numbers" ["text"] sp_letter_numbers) (C_stand_after : Got P w K mg base CX0 1 "stand_after" ["rows", "stand", "letters"] (sp_stand_after K))
    (C_useful : Got P w K mg base CX0 2 "_useful" ["table"] (sp_useful K)) (C_first_level : Got P w K mg base CX0 1 "_first_level" ["useful"] (sp_first_level K)) (C_next_level : Got P w K mg base CX0 1 "_next_level" ["table", "useful", "level"] (sp_next_level K))
    (C_words_in : Got P w K mg base CX0 1 "_words_in" ["table", "level"] (sp_words_in K)) : FnOk P w K mg base (L2.CX P w) 6 f fd ["table", "text"] (sp_word_index K C) := by
  refine F.okX sc_word_index (fun vs H Q E h => ?_) (fun cdv A outer s0 H vs Q E hr h => ?_)
  · obtain ⟨t, r, e, T, k, n, u, rfl, _⟩ := h
    rfl
  obtain ⟨t, r, e, T, k, n, u, rfl, A1, O, hu, hlen, q1, q2⟩ := h
  have hu0 := hu_of hr
  have hr1 : Room 1 _ := hr.mono (by decide)
  have hr2 : Room 2 _ := hr.mono (by decide)
  have h40 := O.n40
  have hk3 := O.k3
  refine ⟨_, (pss_cons (ps_expr (C_check_table.call hr (by rfl) (pa_cons (pv 0) pa_nil))) (pss_cons (ps_expr (C_check_text.call hr2 (by rfl) (pa_cons (C_table_size.call hr1 (by rfl) (pa_cons (pv 0) pa_nil)) (pa_cons (pv 1) pa_nil)))) (pss_cons (ps_asg (pv 0) (g_tup K 2 (pgs_cons (pg_name (i := 2) sc_word_index.nd rfl (Or.inl rfl)) (pgs_cons (pg_name (i := 3) sc_word_index.nd rfl (Or.inl rfl)) pgs_nil)))) (pss_cons (ps_set (i := 4) sc_word_index.nd rfl (Or.inl rfl) (C_letter_numbers.call hr1 (by rfl) (pa_cons (pv 1) pa_nil))) (pss_cons (ps_if (pt_not (pt_val (p_ixt K (pv 3) (C_stand_after.call hr1 (by rfl) (pa_cons (pv 2) (pa_cons pe_int (pa_cons (pv 4) pa_nil))))))) (pss_one (p_raise TB (takes_of rfl rfl rfl rfl) (by rfl))) pss_nil) (pss_cons (ps_set (i := 5) sc_word_index.nd rfl (Or.inl rfl) (C_useful.call hr2 (by rfl) (pa_cons (pv 0) pa_nil))) (pss_cons (ps_set (i := 6) sc_word_index.nd rfl (Or.inl rfl) (C_first_level.call hr1 (by rfl) (pa_cons (pv 5) pa_nil))) (pss_cons (ps_set (i := 7) sc_word_index.nd rfl (Or.inl rfl) pe_dnewK) (pss_cons (ps_set (i := 8) sc_word_index.nd rfl (Or.inl rfl) pe_int) (pss_cons (ps_set (i := 9) sc_word_index.nd rfl (Or.inl rfl) pe_int) (pss_cons (ps_for (passes_of rfl) rfl (p_list K (pv 4)) (pg_name (i := 10) sc_word_index.nd rfl (Or.inl rfl)) (pss_cons (ps_aug (i := 9) sc_word_index.nd rfl (Or.inl rfl) (C_words_in.call hr1 (by rfl) (pa_cons (pv 0) (pa_cons (pv 6) pa_nil))) ip_add) (pss_cons (ps_set (i := 6) sc_word_index.nd rfl (Or.inl rfl) (C_next_level.call hr1 (by rfl) (pa_cons (pv 0) (pa_cons (pv 5) (pa_cons (pv 6) pa_nil))))) (pss_cons (ps_set (i := 7) sc_word_index.nd rfl (Or.inl rfl) (C_next_level.call hr1 (by rfl) (pa_cons (pv 0) (pa_cons (pv 5) (pa_cons (pv 7) pa_nil))))) (pss_cons (ps_for (passes_of rfl) rfl (p_tup K (pe_slice sl_tup (p_ixt K (pv 2) (pv 8)) po_none (po_some (pv 10)))) (pg_name (i := 11) sc_word_index.nd rfl (Or.inl rfl)) (pss_one (ps_if (pt_val (p_ixl K (pv 5) (pv 11))) (pss_one (p_dput hu0 (pv 7) (pv 11) (pe_op op_add (p_get hu0 (pv 7) (pv 11) pe_int) pe_int))) pss_nil))) (pss_one (ps_set (i := 8) sc_word_index.nd rfl (Or.inl rfl) (p_ixt K (p_ixt K (pv 2) (pv 8)) (pv 10))))))))) (pss_one (ps_ret (pe_op op_add (pv 9) (C_words_in.call hr1 (by rfl) (pa_cons (pv 0) (pa_cons (pv 7) pa_nil))))))))))))))))), ?_⟩
  refine ⟨_, rfl, t, r, e, T, k, n, rfl, A1, O, fun H1 s1 => ?_⟩
  refine ⟨_, rfl, t, r, e, T, k, n, rfl, A1.same s1, O, _, rfl, k, u, rfl, hk3, hu, hlen, ?_⟩
  have A2 := A1.same s1
  refine ⟨_, rfl, t, _, rfl, A2.top, rfl, _, _, rfl, _, _, rfl, rfl, ?_⟩
  refine ⟨_, rfl, u, rfl, fun x hx => Nat.lt_of_lt_of_le (hu x hx) hk3, hlen, fun l H2 s2 nl hl2 => ?_⟩
  have A3 := A2.same s2
  have hsn := O.run_lt O.n1 hu
  refine ⟨_, rfl, _, rfl, _, rfl, r, l, T, k, n, 0, u, rfl, A3.rows, O, O.n1, SqL.of hl2, hu, e, _, _, _, rfl, rfl, A3.ends, O.at_fin hsn, T.fin (T.run 0 u), rfl, ?_⟩
  cases hf : T.fin (T.run 0 u) with
  | false => exact iteT (q2 hf H2 (s1.trans s2))
  | true =>
  refine iteF ?_
  refine ⟨_, rfl, t, r, e, T, k, n, rfl, A3, O, fun ul H3 L s3 nul hul UL => ?_⟩
  refine ⟨_, rfl, ul, T, k, n, L, rfl, O, SqL.of hul, UL, fun d H4 D s4 nd hd V0 => ?_⟩
  intro dz ndz
  have s5 : Same H4 (upd H4 dz (.dK [])) := same_new ndz _
  have s15 := ((s1.trans s2).trans (s3.trans s4)).trans s5
  have ndzd : d ≠ dz := ne_of_none hd ndz
  refine ⟨_, rfl, l, rfl, ⟨_, SqL.of (s5 _ _ (s4 _ _ (s3 _ _ hl2)))⟩, for_list (K := K) (a := l) (xs := u.map nV) (fun i σ H5 => ∃ (d z : Addr) (D Z : Cs) (v10 v11 : Option V), σ = [some (.ref t), some (.str (tx u)), some (.ref r), some (.ref e), some (.ref l), some (.ref ul), some (.ref d), some (.ref z), some (nV (T.run 0 (u.take i))), some (nV (sumW T k i)), v10, v11] ∧
      Same H H5 ∧ SqL K H5 l (u.map nV) ∧ SqL K H5 ul (L.map V.bl) ∧ H5 d = some (.dK (kD D)) ∧ H5 z = some (.dK (kD Z)) ∧ Lev T k n (bit L) (texts k i) D ∧ Lev T k n (bit L) (Zs k u i) Z)
    ⟨d, dz, D, [], none, none, rfl, s15, SqL.of (s5 _ _ (s4 _ _ (s3 _ _ hl2))), SqL.of (s5 _ _ (s4 _ _ hul)), s5 _ _ hd, upd_same, V0, Lev.empty⟩ (fun i σ H5 _ h => ?_) ?_ ?_⟩
  · obtain ⟨_, _, _, _, _, _, _, _, h, _⟩ := h
    exact h
  · rintro i x σ H5 hi ⟨d, z, D, Z, v10, v11, rfl, sH, hl5, hul5, hd5, hz5, VD, VZ⟩
    rw [List.getElem?_map] at hi
    cases eu : u[i]? with
    | none =>
      rw [eu] at hi
      cases hi
    | some y =>
    rw [eu] at hi
    obtain rfl : nV y = x := Option.some.inj hi
    have hy : y < k := hu y (List.mem_of_getElem? eu)
    have hil : i < u.length := (List.getElem?_eq_some_iff.mp eu).1
    have eg : u.getD i 0 = y := by rw [List.getD_eq_getElem?_getD, eu, Option.getD_some]
    have hsi : T.run 0 (u.take i) < n := O.run_lt O.n1 fun z hz => hu z (List.mem_of_mem_take hz)
    refine ⟨_, rfl, _, rfl, _, rfl, t, r, e, d, T, k, n, L, _, D, rfl, A1.same sH, O, UL, hd5, VD, texts_run O, fun H6 s6 => ⟨_, _, rfl, rfl, ?_⟩⟩
    have ei : V.int (((sumW T k i : Nat) : Int) + (((texts k i).filter (T.acc 0)).length : Nat)) = nV (sumW T k (i + 1)) := congrArg V.int (Int.natCast_add _ _).symm
    rw [ei]
    have sH6 := sH.trans s6
    refine ⟨_, rfl, _, rfl, _, rfl, t, r, e, ul, d, T, k, n, L, _, D, rfl, A1.same sH6, O, s6.seq hul5, UL, s6 _ _ hd5, VD, texts_run O, fun d' H7 D' s7 nd' hd' VD' => ?_⟩
    rw [ext_texts] at VD'
    have sH7 := sH6.trans s7
    refine ⟨_, rfl, _, rfl, _, rfl, t, r, e, ul, z, T, k, n, L, _, Z, rfl, A1.same sH7, O, s7.seq (s6.seq hul5), UL, s7 _ _ (s6 _ _ hz5), VZ, fun v hv => O.run_lt O.n1 (Zs_wd hu i (by omega) v hv), fun z' H8 Z' s8 nz' hz' VZ' => ?_⟩
    have sH8 := sH7.trans s8
    have A8 := A1.same sH8
    obtain ⟨as, h1, hasl, row⟩ := A8.rows.opened O
    obtain ⟨ra, g1, g2⟩ := row _ hsi
    have hrl : ((T.rows.getD (T.run 0 (u.take i)) []).map nV).length = k := by rw [List.length_map, O.rowlen hsi]
    have elo : HT.sIx ((T.rows.getD (T.run 0 (u.take i)) []).map nV).length 0 none = 0 := rfl
    have ehi : HT.sIx ((T.rows.getD (T.run 0 (u.take i)) []).map nV).length ((T.rows.getD (T.run 0 (u.take i)) []).map nV).length (some ((y : Nat) : Int)) = y := by
      rw [HT.sIx_nat, hrl]
      omega
    have ecut : cutV ((T.rows.getD (T.run 0 (u.take i)) []).map nV) none (some ((y : Nat) : Int)) = ((T.rows.getD (T.run 0 (u.take i)) []).map nV).take y := by
      unfold cutV
      rw [elo, ehi]
      rfl
    refine ⟨_, rfl, _, rfl, r, _, _, _, rfl, rfl, h1, atI_nat g1, ?_⟩
    refine ⟨_, rfl, ((y : Nat) : Int), rfl, ra, _, rfl, g2, fun c => ?_, fun p np => ?_⟩
    · have c2 := c.2
      rw [ehi, hrl] at c2
      omega
    rw [ecut]
    have s9 : Same H8 (upd H8 p (.tup (((T.rows.getD (T.run 0 (u.take i)) []).map nV).take y))) := same_new np _
    have hz9 := s9 _ _ hz'
    have sH9 := sH8.trans s9
    have nz0 : H z' = none := sH7.free nz'
    have nd7 : d' ≠ z' := ne_of_none hd' nz'
    have nt : ∀ ys, HO.dK (kD Z') ≠ .tup ys := fun _ z => nomatch z
    have nl' : ∀ ys, HO.dK (kD Z') ≠ .lst ys := fun _ z => nomatch z
    have nf : ∀ ob u, HO.dK (kD Z') ≠ .frz ob u := fun _ _ z => nomatch z
    have hcl : (((T.rows.getD (T.run 0 (u.take i)) []).map nV).take y).length = y := by
      rw [List.length_take, hrl]
      omega
    have hl9 := s9.seq (s8.seq (s7.seq (s6.seq hl5)))
    have hul9 := s9.seq (s8.seq (s7.seq (s6.seq hul5)))
    refine ⟨p, rfl, ⟨_, SqT.new⟩, for_tup (K := K) (a := p) (xs := ((T.rows.getD (T.run 0 (u.take i)) []).map nV).take y) (fun m σ H9 => ∃ (v11 : Option V) (Z2 : Cs), σ = [some (.ref t), some (.str (tx u)), some (.ref r), some (.ref e), some (.ref l), some (.ref ul), some (.ref d'), some (.ref z'), some (nV (T.run 0 (u.take i))), some (nV (sumW T k (i + 1))), some (nV y), v11] ∧
        But z' (upd H8 p (.tup (((T.rows.getD (T.run 0 (u.take i)) []).map nV).take y))) H9 ∧ H9 z' = some (.dK (kD Z2)) ∧ LevF n (bit L) (fun x => cX T (ext k (Zs k u i)) x + deg T (T.run 0 (u.take i)) x m) Z2)
      ⟨v11, Z', rfl, fun b o _ h => h, hz9, VZ'.toF.congr fun x _ _ => (Nat.add_zero _).symm⟩ (fun m σ H9 _ h => ?_) ?_ ?_⟩
    · obtain ⟨_, _, _, b9, _⟩ := h
      exact b9.tup hz9 nt nf SqT.new
    · rintro m x σ H9 hx ⟨v11, Z2, rfl, b9, hz2, F9⟩
      have hm : m < y := by
        have := (List.getElem?_eq_some_iff.mp hx).1
        omega
      have hmk : m < k := by omega
      have hst := O.at_st hsi hmk
      have hl2' : m < ((T.rows.getD (T.run 0 (u.take i)) []).map nV).length := by omega
      rw [atI_nat (List.getElem?_eq_getElem hl2')] at hst
      rw [List.getElem?_take_of_lt hm, List.getElem?_eq_getElem hl2'] at hx
      obtain rfl : x = nV (T.st (T.run 0 (u.take i)) m) := (Option.some.inj hx).symm.trans (Option.some.inj hst)
      have hlt := O.st_lt hsi hmk
      refine ⟨_, rfl, _, rfl, ul, _, _, _, rfl, rfl, b9.lst hz9 nl' nf hul9, at_bit UL.len hlt, _, rfl, ?_⟩
      cases hb : bit L (T.st (T.run 0 (u.take i)) m) with
      | false =>
        refine iteF ⟨_, _, rfl, b9, hz2, F9.congr fun x _ hxu => ?_⟩
        have hne : T.st (T.run 0 (u.take i)) m ≠ x := fun z => by
          rw [z, hxu] at hb
          cases hb
        show _ = _ + (deg T (T.run 0 (u.take i)) x m + if T.st (T.run 0 (u.take i)) m = x then 1 else 0)
        rw [if_neg hne, Nat.add_zero]
      | true =>
        have eo : (valV (kD Z2) (kK (T.st (T.run 0 (u.take i)) m))).getD (V.int 0) = nV (val Z2 (T.st (T.run 0 (u.take i)) m)) := by
          rw [kD_val]
          split
          · rfl
          · rename_i h
            rw [val_none h]
            rfl
        have ez : V.int ((val Z2 (T.st (T.run 0 (u.take i)) m) : Int) + 1) = nV (val Z2 (T.st (T.run 0 (u.take i)) m) + 1) := congrArg V.int (by omega)
        have hz5 := F9.len
        refine iteT ⟨_, rfl, z', rfl, .inl ⟨_, .inl hz2⟩, _, rfl, _, DGet.k (k := kK (T.st (T.run 0 (u.take i)) m)) hz2, ?_⟩
        rw [eo]
        refine ⟨_, _, rfl, rfl, _, rfl, _, rfl, z', _, rfl, (.inl ⟨_, kK (T.st (T.run 0 (u.take i)) m), hz2, rfl, by rw [kD_length]; exact small1000 (by omega), congrArg (fun z => upd H9 z' (.dK z)) ((kD_put F9.nd (T.st (T.run 0 (u.take i)) m) _).symm.trans (congrArg (putK (kD Z2) (kK (T.st (T.run 0 (u.take i)) m))) ez.symm))⟩), ?_⟩
        refine ⟨_, _, rfl, fun b o hb e => ?_, upd_same, (F9.add hlt hb Nat.one_pos).congr fun x _ _ => ?_⟩
        · rw [upd_ne hb]
          exact b9 b o hb e
        · show (_ + deg T (T.run 0 (u.take i)) x m) + (if T.st (T.run 0 (u.take i)) m = x then 1 else 0) = _ + (deg T (T.run 0 (u.take i)) x m + if T.st (T.run 0 (u.take i)) m = x then 1 else 0)
          rw [Nat.add_assoc]
    · rintro σ H9 ⟨v11, Z2, rfl, b9, hz2, F9⟩
      rw [hcl] at F9
      have s10 : Same H H9 := fun b o h => b9 b o (ne_of_none h nz0) (sH9 _ _ h)
      have A10 := A1.same s10
      obtain ⟨as', h1', hasl', row'⟩ := A10.rows.opened O
      obtain ⟨ra', g1', g2'⟩ := row' _ hsi
      refine ⟨_, rfl, _, rfl, r, _, _, _, rfl, rfl, h1', atI_nat g1', _, rfl, ra', _, _, _, rfl, rfl, g2', O.at_st hsi hy, ?_⟩
      refine ⟨d', z', D', Z2, some (nV y), v11, ?_, s10, b9.lst hz9 nl' nf hl9, b9.lst hz9 nl' nf hul9, b9 _ _ nd7 (s9 _ _ (s8 _ _ hd')), hz2, VD', ⟨F9.nd, F9.ok, fun x hx hxu => ?_⟩⟩
      · rw [List.take_add_one, eu, Tab.run_append]
        rfl
      · rw [F9.vl x hx hxu, Zs, cX_append, eg, cX_map]
  · rintro σ H5 ⟨d, z, D, Z, v10, v11, rfl, sH, hl5, hul5, hd5, hz5, VD, VZ⟩
    rw [List.length_map] at *
    refine ⟨_, rfl, _, rfl, _, rfl, t, r, e, z, T, k, n, L, _, Z, rfl, A1.same sH, O, UL, hz5, VZ, fun v hv => O.run_lt O.n1 (Zs_wd hu u.length (Nat.le_refl _) v hv), fun H6 s6 => ⟨_, _, rfl, rfl, ?_⟩⟩
    have ei : V.int (((sumW T k u.length : Nat) : Int) + (((Zs k u u.length).filter (T.acc 0)).length : Nat)) = nV (rank T k u) := by
      rw [Zs_rank hu]
      exact congrArg V.int (Int.natCast_add _ _).symm
    show Q (V.int (((sumW T k u.length : Nat) : Int) + (((Zs k u u.length).filter (T.acc 0)).length : Nat))) H6
    rw [ei]
    exact q1 hf H6 (sH.trans s6)
end
end Own
namespace Own
open PySem PySem.Spec PyProof.Rows L2
/-- the first text that leads to an end -/
def fstW (T : Tab) (k n : Nat) : Option Word := ((fF T k n).find? fun p => T.fin p.1).map (·.2)
theorem find_take_succ {α : Type} {l : List α} {p : α → Bool} {i : Nat} {x : α} (e : l[i]? = some x) (h : (l.take i).find? p = none) : (l.take (i + 1)).find? p = if p x = true then some x else none := by
  rw [List.take_add_one, e, List.find?_append, h]
  simp [List.find?_cons]
  split <;> simp_all
theorem find_take_some {α : Type} {l : List α} {p : α → Bool} {i : Nat} {x : α} (h : (l.take i).find? p = some x) : l.find? p = some x := by
  rw [← List.take_append_drop i l, List.find?_append, h]
  rfl
section
variable {P : Program} {w : World} {K : PySem.W.Frag} {mg : Str → Option Value} {base : Heap}
abbrev s_first_word : Stmt := topS 31
theorem sc_first_word : FnScope ["table", "rows", "ends", "stand", "text"] ["table"] (defScope s_first_word) := ⟨rfl, rfl, rfl, by decide +kernel, rfl, by decide +kernel, by decide +kernel⟩
def sp_first_word (K : PySem.W.Frag) : Sp := fun vs H Q _ => ∃ (t r e : Addr) (T : Tab) (k n : Nat), vs = [.ref t] ∧ TabAt K H t r e T ∧ T.Ok k n ∧ ∀ H', Same H H' → Q (match fstW T k n with | some u => .str (tx u) | none => .non) H'
theorem ok_first_word {f : Addr} {fd : FuncData} (F : Fun K "first_word" "first_word" s_first_word f fd) (B : Bt mg) (C_check_table : Got P w K mg base CX0 5 "check_table" ["table"] (sp_check_table K)) (C_first_texts : GotD P w K mg base CX0 1 "first_texts" ["rows", "start"] [.int 0] (sp_first_texts K)) :
    FnOk P w K mg base CX0 6 f fd ["table"] (sp_first_word K) := by
  refine F.ok sc_first_word (fun vs H Q E h => ?_) (fun cdv A outer s0 H vs Q E hr h => ?_)
  · obtain ⟨t, r, e, T, k, n, rfl, _⟩ := h
    rfl
  obtain ⟨t, r, e, T, k, n, rfl, A1, O, q⟩ := h
  have hr1 : Room 1 _ := hr.mono (by decide)
  have h40 := O.n40
  refine ⟨_, (pss_cons (ps_expr (C_check_table.call hr (by rfl) (pa_cons (pv 0) pa_nil))) (pss_cons (ps_asg (pv 0) (g_tup K 2 (pgs_cons (pg_name (i := 1) sc_first_word.nd rfl (Or.inl rfl)) (pgs_cons (pg_name (i := 2) sc_first_word.nd rfl (Or.inl rfl)) pgs_nil)))) (pss_cons (id (ps_for PassesOwn.never rfl (pi_items (pe_frz (C_first_texts.call hr1 (by rfl) (pa_cons (pv 1) pa_nil)))) (g_tup K 2 (pgs_cons (pg_name (i := 3) sc_first_word.nd rfl (Or.inl rfl)) (pgs_cons (pg_name (i := 4) sc_first_word.nd rfl (Or.inl rfl)) pgs_nil))) (pss_one (ps_if (pt_val (p_ixt K (pv 2) (pv 3))) (pss_one (ps_ret (pv 4))) pss_nil)))) (pss_one (ps_ret pe_non))))), ?_⟩
  refine ⟨_, rfl, t, r, e, T, k, n, rfl, A1, O, fun H1 s1 => ?_⟩
  have A2 := A1.same s1
  refine ⟨_, rfl, t, _, rfl, A2.top, rfl, _, _, rfl, _, _, rfl, rfl, ?_⟩
  refine ⟨_, rfl, r, T, k, n, rfl, A2.rows, O, fun d H2 s2 nd hd => ?_⟩
  refine ⟨d, _, rfl, hd, trivial, fun od => ⟨d, od, kF (fF T k n), rfl, upd_same, ?_⟩⟩
  have s3 : Same H (upd H2 d (.frz od (.dK (kF (fF T k n))))) := fun b o h => by
    rw [upd_ne (ne_of_none (s1 _ _ h) nd)]
    exact s2 _ _ (s1 _ _ h)
  refine for_it (walk_items (d := d) (o := od) (kvs := kF (fF T k n))) (fun i σ H3 => ∃ (v3 v4 : Option V), σ = [some (.ref t), some (.ref r), some (.ref e), v3, v4] ∧ Same H H3 ∧ H3 d = some (.frz od (.dK (kF (fF T k n)))) ∧ ((fF T k n).take i).find? (fun p => T.fin p.1) = none)
    ⟨none, none, rfl, s3, upd_same, rfl⟩ (fun i σ H3 _ h => ?_) ?_ ?_
  · obtain ⟨_, _, _, _, h, _⟩ := h
    exact h
  · rintro i x σ H3 H4 hi ⟨v3, v4, rfl, sH, hd3, hf⟩ ⟨Tp, x1, x2, rfl, nT, rfl, e1, e2⟩
    have hi : i < (fF T k n).length := by rw [← kF_length]; exact hi
    obtain ⟨⟨s, u⟩, eD⟩ : ∃ p, (fF T k n)[i]? = some p := ⟨_, List.getElem?_eq_getElem hi⟩
    have ek : (kF (fF T k n))[i]? = some (kK s, V.str (tx u)) := by
      unfold kF
      rw [List.getElem?_map, eD]
      rfl
    have e1 : (kF (fF T k n))[i]?.map (fun kv => kV kv.1) = some x1 := e1
    have e2 : (kF (fF T k n))[i]?.map Prod.snd = some x2 := e2
    rw [ek] at e1 e2
    obtain rfl : nV s = x1 := Option.some.inj e1
    obtain rfl : V.str (tx u) = x2 := Option.some.inj e2
    obtain ⟨Fo, _⟩ := fF_ok O n
    have hs := (Fo.lt s u (List.mem_of_getElem? eD)).1
    have s34 : Same H3 (upd H3 Tp (.tup [nV s, V.str (tx u)])) := same_new nT _
    have A4 := A1.same (sH.trans s34)
    refine ⟨Tp, _, rfl, SqT.new, rfl, _, _, rfl, _, _, rfl, rfl, ?_⟩
    refine ⟨_, rfl, _, rfl, e, _, _, _, rfl, rfl, A4.ends, O.at_fin hs, T.fin s, rfl, ?_⟩
    have z := find_take_succ eD hf
    cases hb : T.fin s with
    | true =>
      rw [if_pos hb] at z
      have z2 := find_take_some z
      have q' := q _ (sH.trans s34)
      have e5 : fstW T k n = some u := by
        unfold fstW
        rw [z2]
        rfl
      rw [e5] at q'
      exact iteT ⟨_, rfl, q'⟩
    | false =>
      rw [if_neg (by rw [hb]; simp)] at z
      exact iteF ⟨_, _, rfl, sH.trans s34, s34 _ _ hd3, z⟩
  · rintro σ H3 ⟨v3, v4, rfl, sH, hd3, hf⟩
    rw [kF_length, List.take_length] at hf
    have q' := q _ sH
    have e5 : fstW T k n = none := by
      unfold fstW
      rw [hf]
      rfl
    rw [e5] at q'
    exact q'
end
end Own
namespace Own
open PySem PySem.Spec PyProof.Rows L2
section
variable {P : Program} {w : World} {K : PySem.W.Frag} {mg : Str → Option Value} {base : Heap}
abbrev s_law_cell_at : Stmt := topS 42
theorem sc_law_cell_at : FnScope ["script", "k"] ["script", "k"] (defScope s_law_cell_at) := ⟨rfl, rfl, rfl, by decide +kernel, rfl, by decide +kernel, by decide +kernel⟩
def sp_law_cell_at (K : PySem.W.Frag) : Sp := fun vs H Q _ => ∃ (s : Addr) (xs : List Int) (k : Nat), vs = [.ref s, nV k] ∧ SqL K H s (xs.map V.int) ∧ ∀ i, Q (.int i) H
theorem ok_law_cell_at {f : Addr} {fd : FuncData} (F : Fun K "_law_cell_at" "_law_cell_at" s_law_cell_at f fd) (B : Bt mg) : FnOk P w K mg base CX0 1 f fd ["script", "k"] (sp_law_cell_at K) := by
  refine F.ok sc_law_cell_at (fun vs H Q E h => ?_) (fun cdv A outer s0 H vs Q E hr h => ?_)
  · obtain ⟨s, xs, k, rfl, _⟩ := h
    rfl
  obtain ⟨s, xs, k, rfl, hs, q⟩ := h
  refine ⟨_, (pss_cons (ps_if (pt_cmpR op_lt (pv 1) (pe_callB (c_len K) (by rfl) B.len bt_len (pa_cons (pv 0) pa_nil)) (nomark _)) (pss_one (ps_ret (p_ixl K (pv 0) (pv 1)))) pss_nil) (pss_one (ps_ret pe_int))), ?_⟩
  refine ⟨_, rfl, _, rfl, s, _, rfl, .inl hs, _, _, rfl, rfl, _, rfl, ite2 (fun c => ?_) (fun c => ?_)⟩
  · have c := of_decide_eq_true c
    rw [List.length_map] at c
    have hk : k < xs.length := by omega
    have e : (xs.map V.int)[k]? = some (.int xs[k]) := by rw [List.getElem?_map, List.getElem?_eq_getElem hk]; rfl
    exact ⟨_, rfl, _, rfl, s, _, _, _, rfl, rfl, hs, atI_nat e, q _⟩
  · exact q 0
abbrev s_law_draw : Stmt := topS 43
theorem sc_law_draw : FnScope ["cell", "k", "bound", "primes"] ["cell", "k", "bound"] (defScope s_law_draw) := ⟨rfl, rfl, rfl, by decide +kernel, rfl, by decide +kernel, by decide +kernel⟩
def sp_law_draw : Sp := fun vs H Q _ => ∃ (c k b : Int), vs = [.int c, .int k, .int b] ∧ 0 < b ∧ ∀ (r : Nat) H', ((r : Nat) : Int) < b → Same H H' → Q (nV r) H'
theorem fmod_nat {i b : Int} (h : 0 < b) : ∃ r : Nat, i.fmod b = (r : Int) ∧ ((r : Nat) : Int) < b := by
  have e : i.fmod b = i % b := Int.fmod_eq_emod_of_nonneg i (by omega)
  have h1 := Int.emod_nonneg i (show b ≠ 0 by omega)
  have h2 := Int.emod_lt_of_pos i h
  exact ⟨(i % b).toNat, by omega, by omega⟩
def prs : List Int := [1000003, 1000033, 1000037, 1000039, 1000081, 1000099, 1000117, 1000121, 1000133, 1000151, 1000159, 1000171, 1000183, 1000187, 1000193, 1000199]
theorem prs_at (r : Nat) (h : r < 16) : ∃ z : Int, z ≠ 0 ∧ atI (prs.map V.int) (r : Nat) = some (.int z) := by
  have hl : r < prs.length := h
  have h0 : ∀ x, x ∈ prs → x ≠ 0 := by decide
  exact ⟨prs[r], h0 _ (List.getElem_mem hl), atI_nat (by rw [List.getElem?_map, List.getElem?_eq_getElem hl]; rfl)⟩
theorem ok_law_draw {f : Addr} {fd : FuncData} (F : Fun K "_law_draw" "_law_draw" s_law_draw f fd) (B : Bt mg) : FnOk P w K mg base CX0 1 f fd ["cell", "k", "bound"] sp_law_draw := by
  refine F.ok sc_law_draw (fun vs H Q E h => ?_) (fun cdv A outer s0 H vs Q E hr h => ?_)
  · obtain ⟨c, k, b, rfl, _⟩ := h
    rfl
  obtain ⟨c, k, b, rfl, hb, q⟩ := h
  refine ⟨_, (pss_cons (ps_set (i := 3) sc_law_draw.nd rfl (Or.inl rfl) (pe_tup (pa_cons pe_int (pa_cons pe_int (pa_cons pe_int (pa_cons pe_int (pa_cons pe_int (pa_cons pe_int (pa_cons pe_int (pa_cons pe_int (pa_cons pe_int (pa_cons pe_int (pa_cons pe_int (pa_cons pe_int (pa_cons pe_int (pa_cons pe_int (pa_cons pe_int (pa_cons pe_int pa_nil)))))))))))))))))) (pss_one (ps_ret (pe_op op_modN (pe_op op_modN (pe_callTy call_int1 (by rfl) B.int bt_int (pa_cons (pe_op op_add (pe_op op_mul (pv 0) pe_int) (pe_op op_mul (pv 1) pe_int)) pa_nil)) (p_ixt K (pv 3) (pe_op op_modN (pe_callTy call_int1 (by rfl) B.int bt_int (pa_cons (pv 1) pa_nil)) pe_int))) (pv 2))))), ?_⟩
  refine ⟨by decide, fun p np => ?_⟩
  have s1 : Same H (upd H p (.tup (prs.map V.int))) := same_new np _
  obtain ⟨r, er, hr16⟩ := fmod_nat (i := k) (b := 16) (by decide)
  obtain ⟨z, hz, hat⟩ := prs_at r (by omega)
  obtain ⟨r2, er2, hr2⟩ := fmod_nat (i := (c * 48271 + k * 69621).fmod z) hb
  refine ⟨_, rfl, _, _, rfl, rfl, .inr ⟨by decide, by decide⟩, _, rfl, _, _, rfl, rfl, .inr ⟨by decide, by decide⟩, _, _, rfl, rfl, .inl ⟨_, rfl, ?_⟩⟩
  refine ⟨_, rfl, _, rfl,   .inl ⟨_, rfl, _, _, rfl, rfl, (show (16 : Int) ≠ 0 by decide), p, _, _, _, rfl, rfl, SqT.new, ?_, _, _, rfl, rfl, hz, _, rfl, _, _, rfl, rfl, by omega, ?_⟩⟩
  · rw [er]
    exact hat
  · show Q (.int (((c * 48271 + k * 69621).fmod z).fmod b)) _
    rw [er2]
    exact q r2 _ hr2 s1
abbrev s_law_number : Stmt := topS 44
theorem sc_law_number : FnScope ["cell", "k", "bound", "power", "lap", "remains", "small"] ["cell", "k", "bound"] (defScope s_law_number) := ⟨rfl, rfl, rfl, by decide +kernel, rfl, by decide +kernel, by decide +kernel⟩
def sp_law_number : Sp := fun vs H Q _ => ∃ (c b : Int) (k : Nat), vs = [.int c, nV k, .int b] ∧ 0 < b ∧ k ≤ 1000 ∧ ∀ (r : Nat) H', ((r : Nat) : Int) < b → Same H H' → Q (nV r) H'
theorem log_pow : ∀ i, i ≤ 24 → ((1009 : Int) ^ i).natAbs.log2 < 9000
  | i, h => by
    rw [Int.natAbs_pow]
    have h1 : (1009 : Nat) ^ i ≤ 1009 ^ 24 := Nat.pow_le_pow_right (by decide) h
    have h2 : (1009 : Nat) ^ 24 < 2 ^ 300 := by decide
    have h3 : Int.natAbs 1009 = 1009 := rfl
    rw [h3]
    have h4 := (Nat.log2_lt (n := 1009 ^ i) (k := 300) (Nat.pos_iff_ne_zero.mp (Nat.pow_pos (by decide)))).mpr (by omega)
    omega
theorem ok_law_number {f : Addr} {fd : FuncData} (F : Fun K "_law_number" "_law_number" s_law_number f fd) (B : Bt mg) (C_law_draw : Got P w K mg base CX0 1 "_law_draw" ["cell", "k", "bound"] sp_law_draw) : FnOk P w K mg base CX0 2 f fd ["cell", "k", "bound"] sp_law_number := by
  refine F.ok sc_law_number (fun vs H Q E h => ?_) (fun cdv A outer s0 H vs Q E hr h => ?_)
  · obtain ⟨c, b, k, rfl, _⟩ := h
    rfl
  obtain ⟨c, b, k, rfl, hb, hk, q⟩ := h
  refine ⟨_, (pss_cons (ps_set (i := 3) sc_law_number.nd rfl (Or.inl rfl) pe_int) (pss_cons (ps_for PassesOwn.never rfl (pi_range1 (by rfl) B.range (pa_cons (pe_op op_modN (pe_callTy call_int1 (by rfl) B.int bt_int (pa_cons (pv 1) pa_nil)) pe_int) pa_nil)) (pg_name (i := 4) sc_law_number.nd rfl (Or.inl rfl)) (pss_one (ps_set (i := 3) sc_law_number.nd rfl (Or.inl rfl) (pe_op op_mul (pv 3) pe_int)))) (pss_cons (ps_set (i := 5) sc_law_number.nd rfl (Or.inl rfl) (pe_op op_fdivW (pe_op op_sub (pv 0) (pe_op op_pow pe_int pe_int)) (pv 3))) (pss_cons (ps_if (pt_cmpR op_gt (pv 5) pe_int (nomark _)) (pss_one (ps_ret (pe_op op_modN (pe_op op_modN (pe_callTy call_int1 (by rfl) B.int bt_int (pa_cons (pv 5) pa_nil)) pe_int) (pv 2)))) pss_nil) (pss_cons (ps_set (i := 6) sc_law_number.nd rfl (Or.inl rfl) (pe_op op_modN (pe_callTy call_int1 (by rfl) B.int bt_int (pa_cons (pv 0) pa_nil)) pe_int)) (pss_one (ps_ret (pe_op op_modN (C_law_draw.call hr (by rfl) (pa_cons (pe_op op_mul (pe_op op_add (pv 6) (pe_op op_mul pe_int (pv 1))) (pe_op op_add (pe_op op_add (pv 6) (pe_op op_mul pe_int (pv 1))) pe_int)) (pa_cons (pe_op op_add (pe_op op_modN (pe_callTy call_int1 (by rfl) B.int bt_int (pa_cons (pv 1) pa_nil)) pe_int) pe_int) (pa_cons pe_int pa_nil)))) (pv 2))))))))), ?_⟩
  obtain ⟨r0, er0, hr0⟩ := fmod_nat (i := ((k : Nat) : Int)) (b := 24) (by decide)
  refine ⟨_, rfl, .inl ⟨_, rfl, _, _, rfl, rfl, (show (24 : Int) ≠ 0 by decide), ((r0 : Nat) : Int), congrArg (fun z => [V.int z]) er0, by omega, by omega, ?_⟩⟩
  refine for_range (lo := 0) (n := (((r0 : Nat) : Int)).toNat) (fun i σ H1 => ∃ v, σ = [some (.int c), some (nV k), some (.int b), some (.int (1009 ^ i)), v, none, none] ∧ H1 = H) ⟨none, rfl, rfl⟩ ?_ ?_
  · rintro i σ H1 hi ⟨v, rfl, rfl⟩
    refine ⟨_, rfl, _, _, rfl, rfl, .inr ⟨by decide, by decide⟩, ?_⟩
    exact ⟨_, rfl, rfl⟩
  · rintro σ H1 ⟨v, rfl, rfl⟩
    rw [Int.toNat_natCast]
    have h1 := log_pow r0 (by omega)
    have h2 : (0 : Int) < 1009 ^ r0 := Int.pow_pos (by decide)
    refine ⟨_, rfl, _, _, rfl, rfl, ⟨by decide, by decide, by decide⟩, _, _, rfl, rfl, _, rfl, _, _, rfl, rfl, ⟨h2, h1⟩, ?_⟩
    refine ⟨_, rfl, _, _, rfl, rfl, _, rfl, ite2 (fun _ => ?_) (fun _ => ?_)⟩
    · obtain ⟨r, er, hr⟩ := fmod_nat (i := ((c - 10 ^ 18) / 1009 ^ r0).fmod 1009) hb
      refine ⟨_, rfl, .inl ⟨_, rfl, _, _, rfl, rfl, (show (1009 : Int) ≠ 0 by decide), _, rfl, _, _, rfl, rfl, by omega, ?_⟩⟩
      show Q (.int (((((c - 10 ^ 18) / 1009 ^ r0).fmod 1009)).fmod b)) _
      rw [er]
      exact q r _ hr (Same.refl _)
    · obtain ⟨sm, esm, hsm⟩ := fmod_nat (i := c) (b := 1000003) (by decide)
      refine ⟨_, rfl, .inl ⟨_, rfl, _, _, rfl, rfl, (show (1000003 : Int) ≠ 0 by decide), ?_⟩⟩
      show gName 6 (V.int (c.fmod 1000003)) _ _ _
      rw [esm]
      refine ⟨_, rfl, _, rfl, _, _, rfl, rfl, .inl ⟨by decide, by decide⟩, _, _, rfl, rfl, _, rfl, _, rfl, _, _, rfl, rfl, .inl ⟨by decide, by decide⟩, _, _, rfl, rfl, _, _, rfl, rfl, _, _, rfl, rfl, .inl ⟨by omega, by omega⟩, ?_⟩
      refine ⟨_, rfl, .inl ⟨_, rfl, _, _, rfl, rfl, (show (9 : Int) ≠ 0 by decide), _, _, rfl, rfl, _, _, _, rfl, (show (0 : Int) < 999983 by decide), fun r H1 hr s1 => ?_⟩⟩
      obtain ⟨r2, er2, hr2⟩ := fmod_nat (i := ((r : Nat) : Int)) hb
      refine ⟨_, rfl, _, _, rfl, rfl, by omega, ?_⟩
      show Q (.int (((r : Nat) : Int).fmod b)) _
      rw [er2]
      exact q r2 _ hr2 s1
abbrev s_law_next : Stmt := topS 45
theorem sc_law_next : FnScope ["draw", "bound", "at", "cell"] ["draw", "bound"] (defScope s_law_next) := ⟨rfl, rfl, rfl, by decide +kernel, rfl, by decide +kernel, by decide +kernel⟩
/-- what is drawn from: the script, 0, how much was drawn -/
def DrawAt (H : Hp) (d s : Addr) (xs : List Int) (y : Nat) : Prop := H d = some (.lst [.ref s, nV 0, nV y]) ∧ H s = some (.lst (xs.map V.int)) ∧ s ≠ d
def DrawOk (H : Hp) (d s : Addr) : Prop := ∃ xs y, DrawAt H d s xs y
theorem DrawOk.same {H H' : Hp} {d s : Addr} (h : DrawOk H d s) (e : Same H H') : DrawOk H' d s := by
  obtain ⟨xs, y, h1, h2, h3⟩ := h
  exact ⟨xs, y, e _ _ h1, e _ _ h2, h3⟩
theorem DrawOk.some {H : Hp} {d s : Addr} (h : DrawOk H d s) : (∃ ys, H d = some (.lst ys)) ∧ (∃ ys, H s = some (.lst ys)) ∧ s ≠ d := by
  obtain ⟨xs, y, h1, h2, h3⟩ := h
  exact ⟨⟨_, h1⟩, ⟨_, h2⟩, h3⟩
/-- a new object changes -/
theorem DrawOk.upd {H : Hp} {d s l : Addr} {o : HO} (h : DrawOk H d s) (h1 : d ≠ l) (h2 : s ≠ l) : DrawOk (upd H l o) d s := by
  obtain ⟨xs, y, k1, k2, k3⟩ := h
  exact ⟨xs, y, by rw [upd_ne h1]; exact k1, by rw [upd_ne h2]; exact k2, k3⟩
theorem But.trans {d : Addr} {H H' H2 : Hp} (a : But d H H') (b : But d H' H2) : But d H H2 := fun x o hx h => b x o hx (a x o hx h)
theorem But.same {d : Addr} {H H' H2 : Hp} (a : But d H H') (b : Same H' H2) : But d H H2 := fun x o hx h => b x o (a x o hx h)
theorem but_of {d : Addr} {H H' : Hp} (b : Same H H') : But d H H' := fun x o _ h => b x o h
theorem But.refl {d : Addr} {H : Hp} : But d H H := fun _ _ _ h => h
def sp_law_next : Sp := fun vs H Q _ => ∃ (d s : Addr) (b : Nat), vs = [.ref d, nV b] ∧ 0 < b ∧ DrawOk H d s ∧ ∀ (r : Nat) H', r < b → But d H H' → DrawOk H' d s → Q (nV r) H'
theorem ok_law_next {f : Addr} {fd : FuncData} (F : Fun K "_law_next" "_law_next" s_law_next f fd) (B : Bt mg) (C_law_cell_at : Got P w K mg base CX0 1 "_law_cell_at" ["script", "k"] (sp_law_cell_at K)) (C_law_number : Got P w K mg base CX0 2 "_law_number" ["cell", "k", "bound"] sp_law_number) : FnOk P w K mg base CX0 3 f fd ["draw", "bound"] sp_law_next := by
  refine F.ok sc_law_next (fun vs H Q E h => ?_) (fun cdv A outer s0 H vs Q E hr h => ?_)
  · obtain ⟨d, s, b, rfl, _⟩ := h
    rfl
  obtain ⟨d, s, b, rfl, hb, ⟨xs, y, hd, hs, hne⟩, q⟩ := h
  have hr1 : Room 1 _ := hr.mono (by decide)
  refine ⟨_, (pss_cons (ps_asg (pe_op op_add (p_ixl K (pv 0) pe_int) pe_int) (pg_sub (pv 0) pe_int set_list)) (pss_cons (ps_set (i := 2) sc_law_next.nd rfl (Or.inl rfl) (pe_op op_fdivN (p_ixl K (pv 0) pe_int) pe_int)) (pss_cons (ps_set (i := 3) sc_law_next.nd rfl (Or.inl rfl) (pe_op op_add (C_law_cell_at.call hr1 (by rfl) (pa_cons (p_ixl K (pv 0) pe_int) (pa_cons (pe_op op_add (p_ixl K (pv 0) pe_int) (pv 2)) pa_nil))) (pe_op op_mul pe_int (pv 2)))) (pss_one (ps_ret (C_law_number.call hr (by rfl) (pa_cons (pv 3) (pa_cons (pe_op op_add (pe_op op_modN (pe_callTy call_int1 (by rfl) B.int bt_int (pa_cons (p_ixl K (pv 0) pe_int) pa_nil)) pe_int) pe_int) (pa_cons (pv 1) pa_nil))))))))), ?_⟩
  have ey : V.int (((y : Nat) : Int) + 1) = nV (y + 1) := congrArg V.int (by omega)
  refine ⟨_, rfl, d, _, _, _, rfl, rfl, SqL.of hd, rfl, _, _, rfl, rfl, ?_⟩
  show gSub (tVar 0) (tC (V.int 2)) L2.rSetL (V.int (((y : Nat) : Int) + 1)) _ _ _
  rw [ey]
  refine ⟨_, rfl, d, _, _, _, rfl, rfl, hd, rfl, ?_⟩
  have hd1 : (upd H d (.lst [.ref s, nV 0, nV (y + 1)])) d = some (.lst [.ref s, nV 0, nV (y + 1)]) := upd_same
  have b1 : But d H (upd H d (.lst [.ref s, nV 0, nV (y + 1)])) := fun b o hb e => by
    rw [upd_ne hb]
    exact e
  have hs1 := b1 _ _ hne hs
  have eat : V.int (((y + 1 : Nat) : Int).fdiv 12) = nV ((y + 1) / 12) := congrArg V.int (by rw [Int.fdiv_eq_ediv_of_nonneg _ (by decide)]; rfl)
  refine ⟨_, rfl, d, _, _, _, rfl, rfl, SqL.of hd1, rfl, _, _, rfl, rfl, ⟨by decide, by decide⟩, ?_⟩
  show gName 2 (V.int (((y + 1 : Nat) : Int).fdiv 12)) _ _ _
  rw [eat]
  have e0 : V.int ((0 : Int) + (((y + 1) / 12 : Nat) : Int)) = nV ((y + 1) / 12) := congrArg V.int (by omega)
  refine ⟨_, rfl, d, _, _, _, rfl, rfl, SqL.of hd1, rfl, _, rfl, d, _, _, _, rfl, rfl, SqL.of hd1, rfl, _, rfl, _, _, rfl, rfl, s, xs, (y + 1) / 12, ?_, SqL.of hs1, fun i => ?_⟩
  · rw [← e0]
    rfl
  refine ⟨_, rfl, _, _, rfl, rfl, .inl ⟨by decide, by decide⟩, _, _, rfl, rfl, ?_⟩
  have e1 : V.int ((((y + 1 : Nat) : Int).fmod 12) + 1) = nV ((y + 1) % 12 + 1) := congrArg V.int (by rw [Int.fmod_eq_emod_of_nonneg _ (by decide)]; omega)
  refine ⟨_, rfl, _, rfl, d, _, _, _, rfl, rfl, SqL.of hd1, rfl, .inl ⟨_, rfl, _, _, rfl, rfl, (show (12 : Int) ≠ 0 by decide), _, _, rfl, rfl, _, rfl, i + 31 * (((y + 1) / 12 : Nat) : Int), ((b : Nat) : Int), (y + 1) % 12 + 1, ?_, ?_, by omega, fun r H' hr s2 => ?_⟩⟩
  · rw [← e1]
    rfl
  · omega
  · refine q r H' (by omega) (fun b o hb e => s2 _ _ (b1 b o hb e)) ⟨_, _, s2 _ _ hd1, s2 _ _ hs1, hne⟩
end
end Own
namespace Own
open PySem PySem.Spec PyProof.Rows L2
theorem canLay_mem {α : Type} (f : α → PyData) : ∀ xs : List α, (∀ x, x ∈ xs → (f x).canLay0 = true) → PyData.canLayAll0 (xs.map f) = true
  | [], _ => by simp [PyData.canLayAll0]
  | x :: xs, h => by simp [PyData.canLayAll0, h x List.mem_cons_self, canLay_mem f xs fun y hy => h y (List.mem_cons_of_mem _ hy)]
theorem strOk_tx {u : Word} (h : Wd 3 u) : PyData.strOk (tx u) = true := by
  unfold PyData.strOk tx
  rw [Array.all_eq_true]
  intro i hi
  simp only [List.size_toArray, List.length_map] at hi
  simp only [List.getElem_toArray, List.getElem_map]
  have := h _ (List.getElem_mem hi)
  exact decide_eq_true (by omega)
/-- data: lists of texts -/
def dWs (L : List Word) : PyData := .list (L.map fun u => .str (tx u))
theorem eqv_dW (u v : Word) : PyData.eqv (.str (tx u)) (.str (tx v)) = decide (u = v) := by
  simp only [PyData.eqv]
  by_cases h : u = v
  · subst h
    simp
  · rw [decide_eq_false h]
    exact beq_eq_false_iff_ne.mpr fun e => h (tx_inj e)
theorem eqv_dWs (L M : List Word) : PyData.eqv (dWs L) (dWs M) = decide (L = M) := by
  unfold dWs
  rw [PyData.eqv]
  exact eqvAll_map _ eqv_dW L M
theorem shaped_dWs (L : List Word) (h : ∀ u, u ∈ L → Wd 3 u) : SeqAt.shaped (dWs L) = true := by
  unfold SeqAt.shaped dWs
  have h1 : (PyData.list (L.map fun u => .str (tx u))).canLay0 = true := by
    rw [PyData.canLay0]
    exact canLay_mem _ L fun x hx => by
      rw [PyData.canLay0]
      exact strOk_tx (h x hx)
  have h2 : (PyData.list (L.map fun u => .str (tx u))).depth ≤ 64 := by
    have h := depth_map (fun u => PyData.str (tx u)) 0 (fun x => by simp [PyData.depth]) L
    simp only [PyData.depth]
    omega
  rw [h1, decide_eq_true h2]
  rfl
theorem dp_dWs {K : PySem.W.Frag} {H : Hp} {a : Addr} {L : List Word} (h : SqL K H a (L.map fun u => V.str (tx u))) : Dp K H (.ref a) (dWs L) := .lst h (dpAll_map _ _ L fun x _ => .str _)
section
variable {P : Program} {w : World} {K : PySem.W.Frag} {mg : Str → Option Value} {base : Heap}
abbrev s_law_pick : Stmt := topS 46
theorem sc_law_pick : FnScope ["draw", "things"] ["draw", "things"] (defScope s_law_pick) := ⟨rfl, rfl, rfl, by decide +kernel, rfl, by decide +kernel, by decide +kernel⟩
def sp_law_pick : Sp := fun vs H Q _ => ∃ (d s l : Addr) (ys : List V), vs = [.ref d, .ref l] ∧ DrawOk H d s ∧ H l = some (.lst ys) ∧ l ≠ d ∧ ys ≠ [] ∧ ys.length ≤ 100 ∧ ∀ x H', x ∈ ys → But d H H' → DrawOk H' d s → Q x H'
theorem ok_law_pick {f : Addr} {fd : FuncData} (F : Fun K "_law_pick" "_law_pick" s_law_pick f fd) (B : Bt mg) (C_law_next : Got P w K mg base CX0 3 "_law_next" ["draw", "bound"] sp_law_next) : FnOk P w K mg base CX0 4 f fd ["draw", "things"] sp_law_pick := by
  refine F.ok sc_law_pick (fun vs H Q E h => ?_) (fun cdv A outer s0 H vs Q E hr h => ?_)
  · obtain ⟨d, s, l, ys, rfl, _⟩ := h
    rfl
  obtain ⟨d, s, l, ys, rfl, hd, hl, hne, hy, hyl, q⟩ := h
  refine ⟨_, (pss_one (ps_ret (p_ixl K (pv 1) (C_law_next.call hr (by rfl) (pa_cons (pv 0) (pa_cons (pe_callB (c_len K) (by rfl) B.len bt_len (pa_cons (pv 1) pa_nil)) pa_nil)))))), ?_⟩
  refine ⟨_, rfl, _, rfl, _, rfl, l, _, rfl, .inl (SqL.of hl), d, s, ys.length, rfl, List.length_pos_iff.mpr hy, hd, fun r H' hr b1 hd' => ?_⟩
  exact ⟨l, ys, _, _, rfl, rfl, SqL.of (b1 _ _ hne hl), atI_nat (List.getElem?_eq_getElem hr), q _ _ (List.getElem_mem hr) b1 hd'⟩
abbrev s_law_letters : Stmt := topS 47
theorem sc_law_letters : FnScope ["draw", "size", "found", "letter"] ["draw", "size"] (defScope s_law_letters) := ⟨rfl, rfl, rfl, by decide +kernel, rfl, by decide +kernel, by decide +kernel⟩
def sp_law_letters : Sp := fun vs H Q _ => ∃ (d s : Addr) (k : Nat), vs = [.ref d, nV k] ∧ 1 ≤ k ∧ k ≤ 3 ∧ DrawOk H d s ∧ ∀ (u : Word) H', u ≠ [] → u.length ≤ 3 → Wd k u → But d H H' → DrawOk H' d s → Q (.str (tx u)) H'
theorem ok_law_letters {f : Addr} {fd : FuncData} (F : Fun K "_law_letters" "_law_letters" s_law_letters f fd) (B : Bt mg) (C_law_next : Got P w K mg base CX0 3 "_law_next" ["draw", "bound"] sp_law_next) : FnOk P w K mg base CX0 4 f fd ["draw", "size"] sp_law_letters := by
  refine F.ok sc_law_letters (fun vs H Q E h => ?_) (fun cdv A outer s0 H vs Q E hr h => ?_)
  · obtain ⟨d, s, k, rfl, _⟩ := h
    rfl
  obtain ⟨d, s, k, rfl, hk1, hk3, hd, q⟩ := h
  refine ⟨_, (pss_cons (ps_setLc (i := 2) (own := [("letter", 3)]) rfl sc_law_letters.nd rfl rfl (sw_true rfl rfl rfl (by decide +kernel)) (pi_str (pe_slice sl_str pe_str po_none (po_some (pv 1)))) (blkOk_by (by kernel_rfl)) (fun _ _ _ _ _ => (pg_name (i := 3) sc_law_letters.nd rfl (Or.inl rfl))) (fun _ _ _ _ _ => (pts_one (pt_cmpR op_eq (C_law_next.call hr (by rfl) (pa_cons (pv 0) (pa_cons pe_int pa_nil))) pe_int (nomark _)))) (fun _ _ _ _ _ => (pv 3))) (pss_one (ps_ret (pe_ifExp (pt_cmpR (op_neD hr.units) (pv 2) (pe_lst pa_nil) (nomark _)) (p_join K pe_str (pv 2)) (p_ixs pe_str (C_law_next.call hr (by rfl) (pa_cons (pv 0) (pa_cons (pv 1) pa_nil)))))))), ?_⟩
  -- found = [letter for letter in 'abc'[:size] if next(draw, 2) == 0]
  refine ⟨_, rfl, ((k : Nat) : Int), rfl, _, rfl, by decide, _, rfl, fun D nD => ?_⟩
  obtain ⟨⟨_, hys0⟩, ⟨_, hys1⟩, hsd⟩ := hd.some
  have ndD : d ≠ D := ne_of_none hys0 nD
  have nsD : s ≠ D := ne_of_none hys1 nD
  have s1 : Same H (upd H D (.lst [])) := same_new nD _
  rw [abc_eq, cut_abc k hk3]
  refine lc_it walk_str (fun i H1 => ∃ acc : Word, But d H H1 ∧ DrawOk H1 d s ∧ H1 D = some (.lst (acc.map fun l => V.str (tx [l]))) ∧ acc.length ≤ i ∧ Wd k acc) ⟨[], but_of s1, hd.same s1, upd_same, Nat.le_refl _, fun l h => by simp at h⟩ (fun _ _ _ _ => trivial) (fun i x H1 H2 hi q0 y => ?_) (fun H1 q0 => ?_)
  · obtain ⟨acc, b1, d1, hD, hal, haw⟩ := q0
    obtain ⟨rfl, c, hc, rfl⟩ := y
    rw [tx_size, List.length_range] at hi
    rw [tx_at, List.getElem?_range hi] at hc
    obtain rfl : i + 97 = c := Option.some.inj hc
    refine ⟨rfl, _, rfl, d, s, 2, rfl, by decide, d1, fun r H3 hr b2 d2 => ?_⟩
    have hD3 := b2 _ _ ndD.symm hD
    refine ⟨rfl, _, rfl, ite2 (fun _ => ?_) (fun _ => ?_)⟩
    · refine ⟨_, rfl, _, hD3, by rw [List.length_map]; exact small1000 (by omega), acc ++ [i], fun b o hb e => ?_, ?_, ?_, by rw [List.length_append]; show acc.length + 1 ≤ i + 1; omega, fun l hl => ?_⟩
      · have hbD : b ≠ D := ne_of_none e nD
        rw [upd_ne hbD]
        exact b2 _ _ hb (b1 _ _ hb e)
      · exact d2.upd ndD nsD
      · rw [upd_same, List.map_append]
        rfl
      · rcases List.mem_append.mp hl with q | q
        · exact haw l q
        · rw [List.mem_singleton.mp q]
          exact hi
    · exact ⟨acc, b1.trans b2, d2, hD3, by omega, haw⟩
  · obtain ⟨acc, b1, d1, hD, hal, haw⟩ := q0
    rw [tx_size, List.length_range] at hal
    refine ⟨_, rfl, by decide, fun p np => ?_⟩
    have s2 : Same H1 (upd H1 p (.lst [])) := same_new np _
    have hD2 := s2 _ _ hD
    have d2 := d1.same s2
    have hw : ∀ u, u ∈ (acc.map fun l => [l]) → Wd 3 u := fun u hu x hx => by
      obtain ⟨l, hl, rfl⟩ := List.mem_map.mp hu
      rw [List.mem_singleton.mp hx]
      have := haw l hl
      omega
    have hL : (upd H1 p (.lst [])) D = some (.lst ((acc.map fun l => [l]).map fun u => V.str (tx u))) := by
      rw [hD2, List.map_map]
      rfl
    refine ⟨dWs (acc.map fun l => [l]), dWs [], dp_dWs (SqL.of hL), dp_dWs (L := []) (SqL.of upd_same), shaped_dWs _ hw, shaped_dWs [] (fun u h => by simp at h), _, rfl, ?_⟩
    rw [eqv_dWs]
    by_cases ha : acc = []
    · subst ha
      refine iteF ⟨_, rfl, _, rfl, d, s, k, rfl, by omega, d2, fun r H3 hr b3 d3 => ⟨_, _, r + 97, rfl, rfl, by rw [tx_length]; decide, ?_, ?_⟩⟩
      · refine atI_nat ?_
        rw [Array.getElem?_toList]
        exact at_abc r (by omega)
      · exact q [r] H3 (by simp) (by simp) (fun x hx => by rw [List.mem_singleton.mp hx]; exact hr) ((b1.same s2).trans b3) d3
    · have he : ((acc.map fun l => [l]) = []) = False := by
        apply eq_false
        intro z
        exact ha (List.map_eq_nil_iff.mp z)
      have hb : (!decide ((acc.map fun l => [l]) = [])) = true := by
        simp [he]
      rw [hb]
      refine iteT ⟨⟨_, rfl⟩, _, rfl, "", D, (acc.map fun l => [l]).map tx, rfl, rfl, .inl (SqL.of (by rw [hL, List.map_map, List.map_map, List.map_map]; rfl)), ?_, ?_⟩
      · rw [len_one, empty_eq, tx_length, List.length_nil, Nat.mul_zero]
        omega
      · rw [empty_eq, join_tx, flat_one]
        exact q acc _ ha (by omega) haw (b1.same s2) d2
abbrev s_law_many : Stmt := topS 48
theorem sc_law_many : FnScope ["draw", "part", "low", "high"] ["draw", "part"] (defScope s_law_many) := ⟨rfl, rfl, rfl, by decide +kernel, rfl, by decide +kernel, by decide +kernel⟩
def Word.ofHi : Option Nat → V
  | none => .non
  | some h => nV h
def HiOk (lo : Nat) (hi : Option Nat) : Prop := ∀ h, hi = some h → lo ≤ h ∧ 1 ≤ h ∧ h ≤ 3
def sp_law_many : Sp := fun vs H Q _ => ∃ (d s b : Addr), vs = [.ref d, .ref b] ∧ DrawOk H d s ∧
  ∀ (a : Addr) (H' : Hp) (lo : Nat) (hi : Option Nat) (way : Str), lo ≤ 3 → HiOk lo hi → But d H H' → DrawOk H' d s → H' a = some (.tup [.str "again", .ref b, nV lo, Word.ofHi hi, .str way]) → Q (.ref a) H'
theorem ok_law_many {f : Addr} {fd : FuncData} (F : Fun K "_law_many" "_law_many" s_law_many f fd) (B : Bt mg) (C_law_pick : Got P w K mg base CX0 4 "_law_pick" ["draw", "things"] sp_law_pick) : FnOk P w K mg base CX0 5 f fd ["draw", "part"] sp_law_many := by
  refine F.ok sc_law_many (fun vs H Q E h => ?_) (fun cdv A outer s0 H vs Q E hr h => ?_)
  · obtain ⟨d, s, b, rfl, _⟩ := h
    rfl
  obtain ⟨d, s, b, rfl, hd, q⟩ := h
  refine ⟨_, (pss_cons (ps_set (i := 2) sc_law_many.nd rfl (Or.inl rfl) (C_law_pick.call hr (by rfl) (pa_cons (pv 0) (pa_cons (pe_lst (pa_cons pe_int (pa_cons pe_int (pa_cons pe_int (pa_cons pe_int (pa_cons pe_int (pa_cons pe_int pa_nil))))))) pa_nil)))) (pss_cons (ps_set (i := 3) sc_law_many.nd rfl (Or.inl rfl) (C_law_pick.call hr (by rfl) (pa_cons (pv 0) (pa_cons (pe_lst (pa_cons pe_non (pa_cons pe_non (pa_cons (pe_callB (c_max K) (by rfl) B.max bt_max (pa_cons (pe_lst (pa_cons pe_int (pa_cons (pv 2) pa_nil))) pa_nil)) (pa_cons (pe_callB (c_min K) (by rfl) B.min bt_min (pa_cons (pe_lst (pa_cons pe_int (pa_cons (pe_op op_add (pv 2) pe_int) pa_nil))) pa_nil)) (pa_cons pe_int pa_nil)))))) pa_nil)))) (pss_one (ps_ret (pe_tup (pa_cons pe_str (pa_cons (pv 1) (pa_cons (pv 2) (pa_cons (pv 3) (pa_cons (C_law_pick.call hr (by rfl) (pa_cons (pv 0) (pa_cons (pe_lst (pa_cons pe_str (pa_cons pe_str pa_nil))) pa_nil))) pa_nil)))))))))), ?_⟩
  obtain ⟨⟨_, hys0⟩, ⟨_, hys1⟩, hsd⟩ := hd.some
  refine ⟨_, rfl, by decide, fun p np => ?_⟩
  have s1 := same_new np (.lst [V.int 0, V.int 0, V.int 1, V.int 1, V.int 2, V.int 3])
  refine ⟨d, s, p, _, rfl, hd.same s1, upd_same, (ne_of_none hys0 np).symm, by simp, by decide, fun x H2 hx b2 d2 => ?_⟩
  obtain ⟨lo, hlo, rfl⟩ : ∃ lo : Nat, lo ≤ 3 ∧ nV lo = x := by
    simp only [List.mem_cons, List.not_mem_nil, or_false] at hx
    rcases hx with rfl | rfl | rfl | rfl | rfl | rfl
    · exact ⟨0, by decide, rfl⟩
    · exact ⟨0, by decide, rfl⟩
    · exact ⟨1, by decide, rfl⟩
    · exact ⟨1, by decide, rfl⟩
    · exact ⟨2, by decide, rfl⟩
    · exact ⟨3, by decide, rfl⟩
  have bH2 : But d H H2 := (but_of s1).trans b2
  obtain ⟨⟨_, hy20⟩, ⟨_, hy21⟩, _⟩ := d2.some
  refine ⟨_, rfl, _, rfl, (show 2 ≤ sizeLine by decide), fun p1 np1 => ⟨p1, [1, ((lo : Nat) : Int)], rfl, SqL.of upd_same, Nat.succ_pos _, fun m hm hmx => ?_⟩⟩
  have s3 := same_new np1 (.lst [V.int 1, nV lo])
  refine ⟨_, rfl, _, _, rfl, rfl, (show 2 ≤ sizeLine by decide), fun p2 np2 => ⟨p2, [3, ((lo : Nat) : Int) + 1], rfl, SqL.of upd_same, Nat.succ_pos _, fun m2 hm2 hmn => ?_⟩⟩
  have s4 := same_new np2 (.lst [V.int 3, V.int (((lo : Nat) : Int) + 1)])
  refine ⟨(show 5 ≤ sizeLine by decide), fun p3 np3 => ?_⟩
  have s5 := same_new np3 (.lst [V.non, V.non, V.int m, V.int m2, V.int 3])
  have s35 := (s3.trans s4).trans s5
  refine ⟨d, s, p3, _, rfl, d2.same s35, upd_same, (ne_of_none ((s3.trans s4) _ _ hy20) np3).symm, by simp, (show 5 ≤ 100 by decide), fun x H6 hx b6 d6 => ?_⟩
  have h1m := hmx 1 (by simp)
  have h2m := hmx _ (show ((lo : Nat) : Int) ∈ [1, ((lo : Nat) : Int)] by simp)
  have h3m : m = 1 ∨ m = ((lo : Nat) : Int) := by simpa using hm
  have h1n := hmn 3 (by simp)
  have h2n := hmn _ (show ((lo : Nat) : Int) + 1 ∈ [3, ((lo : Nat) : Int) + 1] by simp)
  have h3n : m2 = 3 ∨ m2 = ((lo : Nat) : Int) + 1 := by simpa using hm2
  obtain ⟨hi, hhi, rfl⟩ : ∃ hi, HiOk lo hi ∧ Word.ofHi hi = x := by
    have mk : ∀ z : Int, (lo : Int) ≤ z → 1 ≤ z → z ≤ 3 → ∃ hi, HiOk lo hi ∧ Word.ofHi hi = V.int z := fun z a1 a2 a3 => ⟨some z.toNat, fun h e => by
      obtain rfl := Option.some.inj e
      omega, congrArg V.int (by omega)⟩
    simp only [List.mem_cons, List.not_mem_nil, or_false] at hx
    rcases hx with rfl | rfl | rfl | rfl | rfl
    · exact ⟨none, fun h e => (nomatch e), rfl⟩
    · exact ⟨none, fun h e => (nomatch e), rfl⟩
    · exact mk m (by omega) (by omega) (by omega)
    · exact mk m2 (by omega) (by omega) (by omega)
    · exact mk 3 (by omega) (by omega) (by omega)
  obtain ⟨⟨_, hy60⟩, ⟨_, hy61⟩, _⟩ := d6.some
  have bH6 : But d H H6 := (bH2.same s35).trans b6
  refine ⟨_, rfl, _, rfl, _, rfl, _, rfl, (show 2 ≤ sizeLine by decide), fun p4 np4 => ?_⟩
  have s7 := same_new np4 (.lst [V.str "many", V.str "few"])
  refine ⟨d, s, p4, _, rfl, d6.same s7, upd_same, (ne_of_none hy60 np4).symm, by simp, (show 2 ≤ 100 by decide), fun x H8 hx b8 d8 => ?_⟩
  obtain ⟨way, rfl⟩ : ∃ way : Str, V.str way = x := by
    simp only [List.mem_cons, List.not_mem_nil, or_false] at hx
    rcases hx with rfl | rfl
    · exact ⟨_, rfl⟩
    · exact ⟨_, rfl⟩
  refine ⟨(show 5 ≤ sizeLine by decide), fun a na => ?_⟩
  have s9 := same_new na (.tup [.str "again", .ref b, nV lo, Word.ofHi hi, .str way])
  exact q a _ lo hi way hlo hhi (((bH6.same s7).trans b8).same s9) (d8.same s9) upd_same
end
end Own
namespace Own
open PySem PySem.Spec PyProof.Rows L2
/-! patterns in the heap -/
mutual
def PatAt (K : PySem.W.Frag) (H : Hp) : Pat → Addr → Prop
  | .non, a => SqT K H a [.str "none"]
  | .emp, a => SqT K H a [.str "empty"]
  | .one u, a => SqT K H a [.str "one", .str (tx u)]
  | .row ps, a => ∃ bs : List Addr, SqT K H a (.str "row" :: bs.map V.ref) ∧ PatsAt K H ps bs
  | .any ps, a => ∃ bs : List Addr, SqT K H a (.str "any" :: bs.map V.ref) ∧ PatsAt K H ps bs
  | .again p lo hi, a => ∃ (b : Addr) (way : Str), SqT K H a [.str "again", .ref b, nV lo, Word.ofHi hi, .str way] ∧ PatAt K H p b
  | .group p, a => ∃ b : Addr, SqT K H a [.str "group", .ref b] ∧ PatAt K H p b
def PatsAt (K : PySem.W.Frag) (H : Hp) : Pats → List Addr → Prop
  | .nil, bs => bs = []
  | .cons p ps, bs => ∃ b r, bs = b :: r ∧ PatAt K H p b ∧ PatsAt K H ps r
end
mutual
theorem PatAt.mono {K : PySem.W.Frag} {H H' : Hp} (h : ∀ a xs, SqT K H a xs → SqT K H' a xs) : ∀ (p : Pat) (a : Addr), PatAt K H p a → PatAt K H' p a
  | .non, a, q => by
    unfold PatAt at q ⊢
    exact h _ _ q
  | .emp, a, q => by
    unfold PatAt at q ⊢
    exact h _ _ q
  | .one u, a, q => by
    unfold PatAt at q ⊢
    exact h _ _ q
  | .row ps, a, q => by
    unfold PatAt at q ⊢
    obtain ⟨bs, h1, h2⟩ := q
    exact ⟨bs, h _ _ h1, PatsAt.mono h ps bs h2⟩
  | .any ps, a, q => by
    unfold PatAt at q ⊢
    obtain ⟨bs, h1, h2⟩ := q
    exact ⟨bs, h _ _ h1, PatsAt.mono h ps bs h2⟩
  | .again p lo hi, a, q => by
    unfold PatAt at q ⊢
    obtain ⟨b, way, h1, h2⟩ := q
    exact ⟨b, way, h _ _ h1, PatAt.mono h p b h2⟩
  | .group p, a, q => by
    unfold PatAt at q ⊢
    obtain ⟨b, h1, h2⟩ := q
    exact ⟨b, h _ _ h1, PatAt.mono h p b h2⟩
theorem PatsAt.mono {K : PySem.W.Frag} {H H' : Hp} (h : ∀ a xs, SqT K H a xs → SqT K H' a xs) : ∀ (ps : Pats) (bs : List Addr), PatsAt K H ps bs → PatsAt K H' ps bs
  | .nil, bs, q => by
    unfold PatsAt at q ⊢
    exact q
  | .cons p ps, bs, q => by
    unfold PatsAt at q ⊢
    obtain ⟨b, r, h1, h2, h3⟩ := q
    exact ⟨b, r, h1, PatAt.mono h p b h2, PatsAt.mono h ps r h3⟩
end
theorem PatAt.same {K : PySem.W.Frag} {H H' : Hp} {p : Pat} {a : Addr} (q : PatAt K H p a) (e : Same H H') : PatAt K H' p a := q.mono fun _ _ h => Same.tup e h
/-- where a list changes -/
theorem PatAt.but {K : PySem.W.Frag} {H H' : Hp} {p : Pat} {a d : Addr} {ys : List V} (q : PatAt K H p a) (hd : H d = some (.lst ys)) (e : But d H H') : PatAt K H' p a := q.mono fun _ _ h => e.tup hd (fun _ z => nomatch z) (fun _ _ z => nomatch z) h
def Pats.toL : Pats → List Pat
  | .nil => []
  | .cons p ps => p :: ps.toL
def Pats.ofL : List Pat → Pats
  | [] => .nil
  | p :: ps => .cons p (Pats.ofL ps)
theorem Pats.toL_ofL : ∀ l, (Pats.ofL l).toL = l
  | [] => rfl
  | p :: l => by rw [Pats.ofL, Pats.toL, Pats.toL_ofL l]
theorem Pats.len_toL : ∀ ps : Pats, ps.len = ps.toL.length
  | .nil => rfl
  | .cons p ps => by rw [Pats.len, Pats.toL, List.length_cons, Pats.len_toL ps]
theorem Pats.ok_toL {k : Nat} : ∀ ps : Pats, ps.Ok k ↔ ∀ p, p ∈ ps.toL → p.Ok k
  | .nil => by simp [Pats.Ok, Pats.toL]
  | .cons p ps => by simp [Pats.Ok, Pats.toL, Pats.ok_toL ps]
theorem Pats.depth_toL {m : Nat} : ∀ ps : Pats, ps.depth ≤ m ↔ ∀ p, p ∈ ps.toL → p.depth ≤ m
  | .nil => by simp [Pats.depth, Pats.toL]
  | .cons p ps => by
    have := Pats.depth_toL (m := m) ps
    simp [Pats.depth, Pats.toL, ← this, Nat.max_le]
theorem patsAt_iff {K : PySem.W.Frag} {H : Hp} : ∀ (ps : Pats) (bs : List Addr), PatsAt K H ps bs ↔ bs.length = ps.toL.length ∧ ∀ (i : Nat) (p : Pat) (b : Addr), ps.toL[i]? = some p → bs[i]? = some b → PatAt K H p b
  | .nil, bs => by
    unfold PatsAt Pats.toL
    constructor
    · rintro rfl
      exact ⟨rfl, fun i p b h => by simp at h⟩
    · rintro ⟨h, _⟩
      exact List.length_eq_zero_iff.mp h
  | .cons p ps, bs => by
    unfold PatsAt
    constructor
    · rintro ⟨b, r, rfl, h1, h2⟩
      obtain ⟨h3, h4⟩ := (patsAt_iff ps r).mp h2
      refine ⟨by rw [Pats.toL, List.length_cons, List.length_cons, h3], fun i p' b' hp hb => ?_⟩
      cases i with
      | zero =>
        rw [Pats.toL] at hp
        obtain rfl : p = p' := by simpa using hp
        obtain rfl : b = b' := by simpa using hb
        exact h1
      | succ i =>
        rw [Pats.toL] at hp
        exact h4 i p' b' (by simpa using hp) (by simpa using hb)
    · rintro ⟨h1, h2⟩
      rw [Pats.toL] at h1
      cases bs with
      | nil => simp at h1
      | cons b r =>
        refine ⟨b, r, rfl, h2 0 p b (by rw [Pats.toL]; rfl) rfl, (patsAt_iff ps r).mpr ⟨by simpa using h1, fun i p' b' hp hb => h2 (i + 1) p' b' (by rw [Pats.toL]; simpa using hp) (by simpa using hb)⟩⟩
theorem patsAt_snoc {K : PySem.W.Frag} {H : Hp} {p : Pat} {b : Addr} (h : PatAt K H p b) : ∀ (ps : List Pat) (bs : List Addr), PatsAt K H (Pats.ofL ps) bs → PatsAt K H (Pats.ofL (ps ++ [p])) (bs ++ [b])
  | [], bs, q => by
    unfold Pats.ofL PatsAt at q
    subst q
    simp only [List.nil_append, Pats.ofL, PatsAt]
    exact ⟨b, [], rfl, h, rfl⟩
  | x :: ps, bs, q => by
    unfold Pats.ofL PatsAt at q
    obtain ⟨c, r, rfl, h1, h2⟩ := q
    simp only [List.cons_append, Pats.ofL, PatsAt]
    exact ⟨c, r ++ [b], rfl, h1, patsAt_snoc h ps r h2⟩
theorem PatsAt.same {K : PySem.W.Frag} {H H' : Hp} {ps : Pats} {bs : List Addr} (q : PatsAt K H ps bs) (e : Same H H') : PatsAt K H' ps bs := q.mono fun _ _ h => Same.tup e h
theorem PatsAt.but {K : PySem.W.Frag} {H H' : Hp} {ps : Pats} {bs : List Addr} {d : Addr} {ys : List V} (q : PatsAt K H ps bs) (hd : H d = some (.lst ys)) (e : But d H H') : PatsAt K H' ps bs := q.mono fun _ _ h => e.tup hd (fun _ z => nomatch z) (fun _ _ z => nomatch z) h
section
variable {P : Program} {w : World} {K : PySem.W.Frag} {mg : Str → Option Value} {base : Heap}
abbrev s_law_grown : Stmt := topS 49
theorem sc_law_grown : FnScope ["draw", "size", "deep", "kind", "parts", "turn"] ["draw", "size", "deep"] (defScope s_law_grown) := ⟨rfl, rfl, rfl, by decide +kernel, rfl, by decide +kernel, by decide +kernel⟩
def sp_law_grown (K : PySem.W.Frag) (m : Nat) : Sp := fun vs H Q _ => ∃ (d s : Addr) (k deep : Nat), vs = [.ref d, nV k, nV deep] ∧ deep < m ∧ 1 ≤ k ∧ k ≤ 3 ∧ DrawOk H d s ∧
  ∀ (a : Addr) (p : Pat) (H' : Hp), p.Ok k → p.depth ≤ deep → But d H H' → DrawOk H' d s → PatAt K H' p a → Q (.ref a) H'
theorem ok_law_grown1 {f : Addr} {fd : FuncData} {m : Nat} (F : Fun K "_law_grown" "_law_grown" s_law_grown f fd) (B : Bt mg) (C_law_next : Got P w K mg base CX0 3 "_law_next" ["draw", "bound"] sp_law_next) (C_law_pick : Got P w K mg base CX0 4 "_law_pick" ["draw", "things"] sp_law_pick)
    (C_law_letters : Got P w K mg base CX0 4 "_law_letters" ["draw", "size"] sp_law_letters) (C_law_many : Got P w K mg base CX0 5 "_law_many" ["draw", "part"] sp_law_many) (C_law_grown : Got P w K mg base CX0 (5 + m) "_law_grown" ["draw", "size", "deep"] (sp_law_grown K m)) :
    FnOk P w K mg base CX0 (5 + m + 1) f fd ["draw", "size", "deep"] (sp_law_grown K (m + 1)) := by
  refine F.ok sc_law_grown (fun vs H Q E h => ?_) (fun cdv A outer s0 H vs Q E hr h => ?_)
  · obtain ⟨d, s, k, deep, rfl, _⟩ := h
    rfl
  obtain ⟨d, s, k, deep, rfl, hdeep, hk1, hk3, hd, q⟩ := h
  have hr3 : Room 3 _ := hr.mono (by omega)
  have hr4 : Room 4 _ := hr.mono (by omega)
  have hr5 : Room 5 _ := hr.mono (by omega)
  refine ⟨_, (pss_cons (ps_set (i := 3) sc_law_grown.nd rfl (Or.inl rfl) (C_law_next.call hr3 (by rfl) (pa_cons (pv 0) (pa_cons pe_int pa_nil)))) (pss_cons (ps_if (pt_cmpR op_eq (pv 3) pe_int (nomark _)) (pss_one (ps_ret (C_law_pick.call hr4 (by rfl) (pa_cons (pv 0) (pa_cons (pe_lst (pa_cons (pe_tup (pa_cons pe_str pa_nil)) (pa_cons (pe_tup (pa_cons pe_str pa_nil)) (pa_cons (pe_tup (pa_cons pe_str (pa_cons pe_str pa_nil))) pa_nil)))) pa_nil))))) pss_nil) (pss_cons (ps_if (PW.pt (pw_or (pt_cmpR op_eq (pv 2) pe_int (nomark _)) (pw_or1 (pt_cmpR op_lt (pv 3) pe_int (nomark _))))) (pss_one (ps_ret (pe_tup (pa_cons pe_str (pa_cons (C_law_letters.call hr4 (by rfl) (pa_cons (pv 0) (pa_cons (pv 1) pa_nil))) pa_nil))))) pss_nil) (pss_cons (ps_if (pt_cmpR op_eq (pv 3) pe_int (nomark _)) (pss_one (ps_ret (pe_tup (pa_cons pe_str (pa_cons (C_law_grown.call hr (by rfl) (pa_cons (pv 0) (pa_cons (pv 1) (pa_cons (pe_op op_sub (pv 2) pe_int) pa_nil)))) pa_nil))))) pss_nil) (pss_cons (ps_if (pt_cmpR op_lt (pv 3) pe_int (nomark _)) (pss_one (ps_ret (C_law_many.call hr5 (by rfl) (pa_cons (pv 0) (pa_cons (C_law_grown.call hr (by rfl) (pa_cons (pv 0) (pa_cons (pv 1) (pa_cons (pe_op op_sub (pv 2) pe_int) pa_nil)))) pa_nil))))) pss_nil) (pss_cons (ps_setLc (i := 4) (own := [("turn", 5)]) rfl sc_law_grown.nd rfl rfl (sw_true rfl rfl rfl (by decide +kernel)) (pi_range1 (by rfl) B.range (pa_cons (pe_op op_add pe_int (pe_callTy call_int1 (by rfl) B.int bt_int (pa_cons (pe_cmpR op_eq (C_law_next.call hr3 (by rfl) (pa_cons (pv 0) (pa_cons pe_int pa_nil))) pe_int (nomark _)) pa_nil))) pa_nil)) (blkOk_by (by kernel_rfl)) (fun _ _ _ _ _ => (pg_name (i := 5) sc_law_grown.nd rfl (Or.inl rfl))) (fun _ _ _ _ _ => pts_nil) (fun _ _ _ _ _ => (C_law_grown.call hr (by rfl) (pa_cons (pv 0) (pa_cons (pv 1) (pa_cons (pe_op op_sub (pv 2) pe_int) pa_nil)))))) (pss_one (ps_ret (pe_op op_catT (pe_tup (pa_cons (C_law_pick.call hr4 (by rfl) (pa_cons (pv 0) (pa_cons (pe_lst (pa_cons pe_str (pa_cons pe_str (pa_cons pe_str pa_nil)))) pa_nil))) pa_nil)) (pe_callTy (c_tup K) (by rfl) B.tuple bt_tuple (pa_cons (pv 4) pa_nil))))))))))), ?_⟩
  refine ⟨_, rfl, d, s, 12, rfl, by decide, hd, fun kind H1 hkind b1 d1 => ?_⟩
  obtain ⟨⟨_, hy10⟩, ⟨_, hy11⟩, hsd⟩ := d1.some
  obtain ⟨⟨_, hyd⟩, _, _⟩ := hd.some
  have two : ∀ n, n ≤ 10 → n ≤ sizeLine := fun n h => Nat.le_of_lt (small1000 (by omega))
  refine ⟨_, rfl, rfl, _, rfl, ite2 (fun c => ?_) (fun c => ?_)⟩
  · -- kind 0
    refine ⟨_, rfl, two 1 (by decide), fun p1 np1 => ⟨two 1 (by decide), fun p2 np2 => ⟨two 2 (by decide), fun p3 np3 => ⟨two 3 (by decide), fun p4 np4 => ?_⟩⟩⟩⟩
    have s2 := same_new np1 (.tup [V.str "empty"])
    have s3 := same_new np2 (.tup [V.str "none"])
    have s4 := same_new np3 (.tup [V.str "one", V.str "a"])
    have s5 := same_new np4 (.lst [V.ref p1, V.ref p2, V.ref p3])
    have s25 := ((s2.trans s3).trans s4).trans s5
    refine ⟨d, s, p4, _, rfl, d1.same s25, upd_same, (ne_of_none (((s2.trans s3).trans s4) _ _ hy10) np4).symm, by simp, (show 3 ≤ 100 by decide), fun x H6 hx b6 d6 => ?_⟩
    have bH : But d H H6 := (b1.same s25).trans b6
    simp only [List.mem_cons, List.not_mem_nil, or_false] at hx
    rcases hx with rfl | rfl | rfl
    · refine q p1 .emp H6 (by simp [Pat.Ok]) (by simp [Pat.depth]) bH d6 ?_
      unfold PatAt
      exact .inl (.inl (b6 _ _ (ne_of_none hy10 np1).symm (s5 _ _ (s4 _ _ (s3 _ _ upd_same)))))
    · refine q p2 .non H6 (by simp [Pat.Ok]) (by simp [Pat.depth]) bH d6 ?_
      unfold PatAt
      exact .inl (.inl (b6 _ _ (ne_of_none (s2 _ _ hy10) np2).symm (s5 _ _ (s4 _ _ upd_same))))
    · refine q p3 (.one [0]) H6 (by simp [Pat.Ok]; omega) (by simp [Pat.depth]) bH d6 ?_
      unfold PatAt
      exact .inl (.inl (b6 _ _ (ne_of_none ((s2.trans s3) _ _ hy10) np3).symm (s5 _ _ upd_same)))
  -- one
  refine ⟨_, rfl, rfl, _, rfl, ?_⟩
  have one : tRet (tTup (tCons (tC (V.str (Str.ofString "one"))) (tCons (tCall sp_law_letters [] E0 (tCons (tVar 0) (tCons (tVar 1) tNil))) tNil))) { nx := fun x H' => Q V.non H', rt := Q } [some (.ref d), some (nV k), some (nV deep), some (nV kind), none, none] H1 := by
    refine ⟨_, rfl, _, rfl, d, s, k, rfl, hk1, hk3, d1, fun u H2 h1 h2 h3 b2 d2 => ⟨two 2 (by decide), fun p np => ?_⟩⟩
    have s3 := same_new np (.tup [V.str "one", V.str (tx u)])
    refine q p (.one u) _ (by simp only [Pat.Ok]; exact ⟨h1, h2, h3⟩) (by simp [Pat.depth]) ((b1.trans b2).same s3) (d2.same s3) ?_
    unfold PatAt
    exact .inl (.inl upd_same)
  refine ite2 (fun c2 => iteT one) (fun c2 => ?_)
  refine ⟨_, rfl, _, _, rfl, rfl, _, rfl, ite2 (fun _ => one) (fun c3 => ?_)⟩
  have hdp : 1 ≤ deep := Nat.one_le_iff_ne_zero.mpr fun z => by
    subst z
    exact c2 (decide_eq_true rfl)
  have edeep : V.int (((deep : Nat) : Int) - 1) = nV (deep - 1) := congrArg V.int (by omega)
  -- group
  refine ⟨_, rfl, rfl, _, rfl, ite2 (fun _ => ?_) (fun _ => ?_)⟩
  · refine ⟨_, rfl, _, rfl, _, rfl, _, _, rfl, rfl, d, s, k, deep - 1, by rw [← edeep]; rfl, by omega, hk1, hk3, d1, fun b p H2 h1 h2 b2 d2 pt => ⟨two 2 (by decide), fun a na => ?_⟩⟩
    have s3 := same_new na (.tup [V.str "group", V.ref b])
    refine q a (.group p) _ (by simp only [Pat.Ok]; exact h1) (by simp only [Pat.depth]; omega) ((b1.trans b2).same s3) (d2.same s3) ?_
    unfold PatAt
    exact ⟨b, .inl (.inl upd_same), pt.same s3⟩
  -- again
  refine ⟨_, rfl, _, _, rfl, rfl, _, rfl, ite2 (fun _ => ?_) (fun _ => ?_)⟩
  · refine ⟨_, rfl, _, rfl, _, rfl, _, rfl, _, _, rfl, rfl, d, s, k, deep - 1, by rw [← edeep]; rfl, by omega, hk1, hk3, d1, fun b p H2 h1 h2 b2 d2 pt => ?_⟩
    refine ⟨d, s, b, rfl, d2, fun a H3 lo hi way hlo hhi b3 d3 ha => ?_⟩
    obtain ⟨⟨_, hy2⟩, _, _⟩ := d2.some
    refine q a (.again p lo hi) H3 (by simp only [Pat.Ok]; exact ⟨h1, hlo, hhi⟩) (by simp only [Pat.depth]; omega) ((b1.trans b2).trans b3) d3 ?_
    unfold PatAt
    exact ⟨b, way, .inl (.inl ha), pt.but hy2 b3⟩
  -- row, any
  refine ⟨_, rfl, d, s, 4, rfl, by decide, d1, fun r4 H2 hr4' b2 d2 => ?_⟩
  obtain ⟨c, hc1, hc2, ec⟩ : ∃ c : Nat, 2 ≤ c ∧ c ≤ 3 ∧ (2 : Int) + (if decide (nV r4 = V.int 0) = true then 1 else 0) = ((c : Nat) : Int) := by
    by_cases z : decide (nV r4 = V.int 0) = true
    · exact ⟨3, by decide, by decide, by rw [if_pos z]; rfl⟩
    · exact ⟨2, by decide, by decide, by rw [if_neg z]; rfl⟩
  refine ⟨rfl, .inr ⟨_, rfl, _, _, rfl, rfl, ((c : Nat) : Int), congrArg (fun z => [V.int z]) ec, by omega, by omega, fun D nD => ?_⟩⟩
  obtain ⟨⟨_, hy20⟩, ⟨_, hy21⟩, _⟩ := d2.some
  have ndD : d ≠ D := ne_of_none hy20 nD
  have nsD : s ≠ D := ne_of_none hy21 nD
  have s3 := same_new nD (.lst [])
  have hD0 : H D = none := Classical.byContradiction fun z => by
    obtain ⟨o, ho⟩ := Option.ne_none_iff_exists'.mp z
    have hD1 : D ≠ d := ndD.symm
    have := b2 _ _ hD1 (b1 _ _ hD1 ho)
    rw [nD] at this
    cases this
  refine lc_it (walk_range (lo := 0)) (fun i H5 => ∃ (bs : List Addr) (ps : List Pat), ps.length = i ∧ (∀ p, p ∈ ps → p.Ok k ∧ p.depth ≤ deep - 1) ∧ But d H H5 ∧ DrawOk H5 d s ∧ H5 D = some (.lst (bs.map V.ref)) ∧ bs.length = i ∧ PatsAt K H5 (Pats.ofL ps) bs) ⟨[], [], rfl, fun p h => by simp at h, (b1.trans b2).same s3, d2.same s3, upd_same, rfl, by unfold Pats.ofL PatsAt; rfl⟩ (fun _ _ _ _ => trivial) (fun i x H5 H6 hi q0 y => ?_) (fun H5 q0 => ?_)
  · obtain ⟨bs, ps, hpl, hps, b5, d5, hD5, hbl, pt5⟩ := q0
    obtain ⟨rfl, rfl⟩ := y
    rw [Int.toNat_natCast] at hi
    refine ⟨rfl, tYes_if ⟨_, rfl, _, rfl, _, rfl, _, _, rfl, rfl, d, s, k, deep - 1, by rw [← edeep]; rfl, by omega, hk1, hk3, d5, fun b p H7 h1 h2 b7 d7 pt => ?_⟩⟩
    obtain ⟨⟨_, hy50⟩, _, _⟩ := d5.some
    have hD7 := b7 _ _ ndD.symm hD5
    have bD : But D H7 (upd H7 D (.lst (bs.map V.ref ++ [V.ref b]))) := fun b o hb e => by
      rw [upd_ne hb]
      exact e
    refine ⟨_, hD7, by rw [List.length_map]; exact small1000 (by omega), bs ++ [b], ps ++ [p], by rw [List.length_append, hpl]; rfl, fun p' hp' => ?_, fun b' o hb e => ?_, d7.upd ndD nsD, ?_, by rw [List.length_append, hbl]; rfl, ?_⟩
    · rcases List.mem_append.mp hp' with z | z
      · exact hps p' z
      · rw [List.mem_singleton.mp z]
        exact ⟨h1, h2⟩
    · rw [upd_ne (ne_of_none e hD0)]
      exact b7 _ _ hb (b5 _ _ hb e)
    · rw [upd_same, List.map_append]
      rfl
    · exact patsAt_snoc (pt.but hD7 bD) ps bs ((pt5.but hy50 b7).but hD7 bD)
  · obtain ⟨bs, ps, hpl, hps, b5, d5, hD5, hbl, pt5⟩ := q0
    rw [Int.toNat_natCast] at hpl hbl
    obtain ⟨⟨_, hy50⟩, _, _⟩ := d5.some
    refine ⟨_, rfl, two 3 (by decide), fun p1 np1 => ?_⟩
    have s6 := same_new np1 (.lst [V.str "row", V.str "row", V.str "any"])
    refine ⟨d, s, p1, _, rfl, d5.same s6, upd_same, (ne_of_none hy50 np1).symm, by simp, (show 3 ≤ 100 by decide), fun x H7 hx b7 d7 => ⟨two 1 (by decide), fun p2 np2 => ?_⟩⟩
    have s8 := same_new np2 (.tup [x])
    have hD8 := s8 _ _ (b7 _ _ ndD.symm (s6 _ _ hD5))
    refine ⟨_, rfl, D, _, rfl, SqL.of hD8, fun tp ntp => ?_⟩
    have s9 := same_new ntp (.tup (bs.map V.ref))
    have hx2 : (upd (upd H7 p2 (.tup [x])) tp (.tup (bs.map V.ref))) p2 = some (.tup [x]) := s9 _ _ upd_same
    have hne : (bs.map V.ref) ≠ [] := fun z => by
      have := congrArg List.length z
      rw [List.length_map, hbl] at this
      simp at this
      omega
    refine ⟨p2, tp, _, _, rfl, rfl, .inl (.inl hx2), SqT.new, by simp, ?_, fun z => absurd z hne, fun _ rp nrp => ?_⟩
    · rw [List.length_map, hbl]
      show 1 + c ≤ sizeLine
      exact two _ (by omega)
    have s10 := same_new nrp (.tup ([x] ++ bs.map V.ref))
    have s810 := (s8.trans s9).trans s10
    have ptF : PatsAt K (upd (upd (upd H7 p2 (.tup [x])) tp (.tup (bs.map V.ref))) rp (.tup ([x] ++ bs.map V.ref))) (Pats.ofL ps) bs := ((pt5.same s6).but (s6 _ _ hy50) b7).same s810
    have bF := ((b5.same s6).trans b7).same s810
    have dF := d7.same s810
    have oF : (Pats.ofL ps).Ok k := (Pats.ok_toL _).mpr fun p hp => (hps p (by rw [Pats.toL_ofL] at hp; exact hp)).1
    have lF : (Pats.ofL ps).len ≤ 4 := by
      rw [Pats.len_toL, Pats.toL_ofL]
      omega
    have eF : (Pats.ofL ps).depth ≤ deep - 1 := (Pats.depth_toL _).mpr fun p hp => (hps p (by rw [Pats.toL_ofL] at hp; exact hp)).2
    simp only [List.mem_cons, List.not_mem_nil, or_false] at hx
    have row : x = V.str "row" → Q (.ref rp) (upd (upd (upd H7 p2 (.tup [x])) tp (.tup (bs.map V.ref))) rp (.tup ([x] ++ bs.map V.ref))) := by
      rintro rfl
      refine q rp (.row (Pats.ofL ps)) _ (by simp only [Pat.Ok]; exact ⟨oF, lF⟩) (by simp only [Pat.depth]; omega) bF dF ?_
      unfold PatAt
      exact ⟨bs, .inl (.inl upd_same), ptF⟩
    rcases hx with rfl | rfl | rfl
    · exact row rfl
    · exact row rfl
    · refine q rp (.any (Pats.ofL ps)) _ (by simp only [Pat.Ok]; exact ⟨oF, lF⟩) (by simp only [Pat.depth]; omega) bF dF ?_
      unfold PatAt
      exact ⟨bs, .inl (.inl upd_same), ptF⟩
theorem ok_law_grown0 {f : Addr} {fd : FuncData} (F : Fun K "_law_grown" "_law_grown" s_law_grown f fd) : FnOk P w K mg base CX0 5 f fd ["draw", "size", "deep"] (sp_law_grown K 0) := by
  refine F.ok (k := 4) sc_law_grown (fun vs H Q E h => ?_) (fun cdv A outer s0 H vs Q E hr h => ?_)
  · obtain ⟨d, s, k, deep, rfl, hd, _⟩ := h
    omega
  · obtain ⟨d, s, k, deep, rfl, hd, _⟩ := h
    omega
theorem ok_law_grown {f : Addr} {fd : FuncData} (F : Fun K "_law_grown" "_law_grown" s_law_grown f fd) (B : Bt mg) (C_law_next : Got P w K mg base CX0 3 "_law_next" ["draw", "bound"] sp_law_next) (C_law_pick : Got P w K mg base CX0 4 "_law_pick" ["draw", "things"] sp_law_pick)
    (C_law_letters : Got P w K mg base CX0 4 "_law_letters" ["draw", "size"] sp_law_letters) (C_law_many : Got P w K mg base CX0 5 "_law_many" ["draw", "part"] sp_law_many) (got : ∀ k sp, FnOk P w K mg base CX0 k f fd ["draw", "size", "deep"] sp → Got P w K mg base CX0 k "_law_grown" ["draw", "size", "deep"] sp) :
    ∀ m, FnOk P w K mg base CX0 (5 + m) f fd ["draw", "size", "deep"] (sp_law_grown K m)
  | 0 => ok_law_grown0 F
  | m + 1 => ok_law_grown1 F B C_law_next C_law_pick C_law_letters C_law_many (got _ _ (ok_law_grown F B C_law_next C_law_pick C_law_letters C_law_many got m))
end
end Own
namespace Own
open PySem PySem.Spec PyProof.Rows L2
def Pat.nm : Pat → Str
  | .non => "none"
  | .emp => "empty"
  | .one _ => "one"
  | .row _ => "row"
  | .any _ => "any"
  | .again _ _ _ => "again"
  | .group _ => "group"
def Pat.kids : Pat → List Pat
  | .row ps => ps.toL
  | .any ps => ps.toL
  | .again p _ _ => [p]
  | .group p => [p]
  | _ => []
theorem Pats.ofL_toL : ∀ ps : Pats, Pats.ofL ps.toL = ps
  | .nil => rfl
  | .cons p ps => by rw [Pats.toL, Pats.ofL, Pats.ofL_toL ps]
theorem PatAt.head {K : PySem.W.Frag} {H : Hp} {p : Pat} {a : Addr} (h : PatAt K H p a) : ∃ tl, SqT K H a (.str p.nm :: tl) := by
  cases p <;> unfold PatAt at h
  · exact ⟨_, h⟩
  · exact ⟨_, h⟩
  · exact ⟨_, h⟩
  · obtain ⟨bs, h, _⟩ := h
    exact ⟨_, h⟩
  · obtain ⟨bs, h, _⟩ := h
    exact ⟨_, h⟩
  · obtain ⟨b, way, h, _⟩ := h
    exact ⟨_, h⟩
  · obtain ⟨b, h, _⟩ := h
    exact ⟨_, h⟩
theorem Pats.parts_toL : ∀ ps : Pats, ps.parts = (ps.toL.map Pat.parts).sum
  | .nil => rfl
  | .cons p ps => by rw [Pats.parts, Pats.toL, List.map_cons, List.sum_cons, Pats.parts_toL ps]
theorem Pats.wt_toL : ∀ ps : Pats, ps.wt = (ps.toL.map Pat.wt).sum
  | .nil => rfl
  | .cons p ps => by rw [Pats.wt, Pats.toL, List.map_cons, List.sum_cons, Pats.wt_toL ps]
theorem Pat.parts_kids (p : Pat) : p.parts = 1 + (p.kids.map Pat.parts).sum := by
  cases p <;> simp [Pat.parts, Pat.kids, Pats.parts_toL]
theorem Pat.depth_kids {p c : Pat} (h : c ∈ p.kids) : c.depth < p.depth := by
  cases p <;> simp [Pat.kids] at h
  · rename_i ps
    have := (Pats.depth_toL (m := ps.depth) ps).mp (Nat.le_refl _) c h
    simp only [Pat.depth]
    omega
  · rename_i ps
    have := (Pats.depth_toL (m := ps.depth) ps).mp (Nat.le_refl _) c h
    simp only [Pat.depth]
    omega
  · subst h
    simp only [Pat.depth]
    omega
  · subst h
    simp only [Pat.depth]
    omega
theorem at0 {x : V} {tl : List V} : atI (x :: tl) 0 = some x := atI_nat (j := 0) rfl
theorem at1 {x y : V} {tl : List V} : atI (x :: y :: tl) 1 = some y := atI_nat (j := 1) rfl
theorem at2 {x y z : V} {tl : List V} : atI (x :: y :: z :: tl) 2 = some z := atI_nat (j := 2) rfl
theorem at3 {x y z u : V} {tl : List V} : atI (x :: y :: z :: u :: tl) 3 = some u := atI_nat (j := 3) rfl
theorem cut_tail (x : V) (xs : List V) : cutV (x :: xs) (some 1) none = xs := by
  have e1 : HT.sIx (x :: xs).length 0 (some 1) = 1 := by
    rw [show (1 : Int) = ((1 : Nat) : Int) from rfl, HT.sIx_nat]
    simp
  unfold cutV
  rw [e1, HT.sIx_none]
  simp
theorem cut_ne (x : V) (xs : List V) : ¬ (HT.sIx (x :: xs).length 0 (some 1) = 0 ∧ HT.sIx (x :: xs).length (x :: xs).length none = (x :: xs).length) := by
  have e1 : HT.sIx (x :: xs).length 0 (some 1) = 1 := by
    rw [show (1 : Int) = ((1 : Nat) : Int) from rfl, HT.sIx_nat]
    simp
  rw [e1]
  omega
def Pat.isRA (p : Pat) : Bool := inV (.str p.nm) [.str "row", .str "any"]
def Pat.isAG (p : Pat) : Bool := inV (.str p.nm) [.str "again", .str "group"]
section
variable {P : Program} {w : World} {K : PySem.W.Frag} {mg : Str → Option Value} {base : Heap}
abbrev s_law_inner : Stmt := topS 50
theorem sc_law_inner : FnScope ["pattern"] ["pattern"] (defScope s_law_inner) := ⟨rfl, rfl, rfl, by decide +kernel, rfl, by decide +kernel, by decide +kernel⟩
def sp_law_inner (K : PySem.W.Frag) : Sp := fun vs H Q _ => ∃ (a : Addr) (p : Pat), vs = [.ref a] ∧ PatAt K H p a ∧ p.kids.length ≤ 100 ∧ ∀ (l : Addr) (bs : List Addr) (H' : Hp), Same H H' → H' l = some (.lst (bs.map V.ref)) → PatsAt K H' (Pats.ofL p.kids) bs → Q (.ref l) H'
theorem ok_law_inner {f : Addr} {fd : FuncData} (F : Fun K "_law_inner" "_law_inner" s_law_inner f fd) (B : Bt mg) : FnOk P w K mg base CX0 1 f fd ["pattern"] (sp_law_inner K) := by
  refine F.ok sc_law_inner (fun vs H Q E h => ?_) (fun cdv A outer s0 H vs Q E hr h => ?_)
  · obtain ⟨a, p, rfl, _⟩ := h
    rfl
  obtain ⟨a, p, rfl, pt, hlen, q⟩ := h
  have two : ∀ n, n ≤ 10 → n ≤ sizeLine := fun n h => Nat.le_of_lt (small1000 (by omega))
  refine ⟨_, (pss_cons (ps_if (t_in K (p_ixt K (pv 0) pe_int) (pe_tup (pa_cons pe_str (pa_cons pe_str pa_nil)))) (pss_one (ps_ret (pe_callTy (c_list K) (by rfl) B.list bt_list (pa_cons (pe_slice sl_tup (pv 0) (po_some pe_int) po_none) pa_nil)))) pss_nil) (pss_one (ps_ret (pe_ifExp (t_in K (p_ixt K (pv 0) pe_int) (pe_tup (pa_cons pe_str (pa_cons pe_str pa_nil)))) (pe_lst (pa_cons (p_ixt K (pv 0) pe_int) pa_nil)) (pe_lst pa_nil))))), ?_⟩
  obtain ⟨tl, hsq⟩ := pt.head
  refine ⟨_, rfl, a, _, _, _, rfl, rfl, hsq, at0, two 2 (by decide), fun p1 np1 => ?_⟩
  have s1 := same_new np1 (.tup [V.str "row", V.str "any"])
  refine ⟨p1, _, rfl, .inr SqT.new, rfl, rfl, p.isRA, rfl, ?_⟩
  have ra : ∀ (nm : Str) (ps : Pats) (bs : List Addr), SqT K H a (.str nm :: bs.map V.ref) → PatsAt K H ps bs → p.kids = ps.toL → p.isRA = true →
      tRet (tCB (rListS K) (tCons (tSl (rSlT K) (tVar 0) (tPart (tC (V.int 1))) tNoPart) tNil)) { nx := fun x H' => Q V.non H', rt := Q } [some (.ref a)] (upd H p1 (.tup [V.str "row", V.str "any"])) := by
    intro nm ps bs hs hp hk _
    refine ⟨_, rfl, 1, rfl, a, _, rfl, Same.tup s1 hs, cut_ne _ _, fun p2 np2 => ?_⟩
    rw [cut_tail]
    have s2 := same_new np2 (.tup (bs.map V.ref))
    refine ⟨p2, _, rfl, .inr SqT.new, fun l nl => ?_⟩
    have s3 := same_new nl (.lst (bs.map V.ref))
    refine q l bs _ ((s1.trans s2).trans s3) upd_same ?_
    rw [hk, Pats.ofL_toL]
    exact hp.same ((s1.trans s2).trans s3)
  have no : ∀ R : Bool, (R = p.isAG) → (R = false ∧ p.kids = [] ∨ R = true ∧ ∃ (x : V) (b : Addr) (c : Pat), (∃ tl' : List V, SqT K H a (x :: .ref b :: tl')) ∧ p.kids = [c] ∧ PatAt K H c b) →
      tRet (tIf (tTest (tOp (rIn K false) (tOp (rIxT K) (tVar 0) (tC (V.int 0))) (tTup (tCons (tC (V.str (Str.ofString "again"))) (tCons (tC (V.str (Str.ofString "group"))) tNil)))))
                  (tLst (tCons (tOp (rIxT K) (tVar 0) (tC (V.int 1))) tNil)) (tLst tNil)) { nx := fun x H' => Q V.non H', rt := Q } [some (.ref a)] (upd H p1 (.tup [V.str "row", V.str "any"])) := by
    intro R eR h
    refine ⟨_, rfl, a, _, _, _, rfl, rfl, Same.tup s1 hsq, at0, two 2 (by decide), fun p2 np2 => ?_⟩
    have s2 := same_new np2 (.tup [V.str "again", V.str "group"])
    refine ⟨p2, _, rfl, .inr SqT.new, rfl, rfl, R, by rw [eR]; rfl, ?_⟩
    rcases h with ⟨rfl, hk⟩ | ⟨rfl, x, b, c, ⟨tl', hs⟩, hk, hc⟩
    · refine iteF ⟨two 0 (by decide), fun l nl => q l [] _ ((s1.trans s2).trans (same_new nl _)) upd_same ?_⟩
      rw [hk]
      unfold Pats.ofL PatsAt
      rfl
    · refine iteT ⟨_, rfl, a, _, _, _, rfl, rfl, Same.tup (s1.trans s2) hs, at1, two 1 (by decide), fun l nl => q l [b] _ ((s1.trans s2).trans (same_new nl _)) upd_same ?_⟩
      rw [hk]
      simp only [Pats.ofL, PatsAt]
      exact ⟨b, [], rfl, hc.same ((s1.trans s2).trans (same_new nl _)), rfl⟩
  cases p with
  | non => exact iteF (no false (by decide +kernel) (.inl ⟨rfl, rfl⟩))
  | emp => exact iteF (no false (by decide +kernel) (.inl ⟨rfl, rfl⟩))
  | one u => exact iteF (no false (show false = inV (.str "one") [.str "again", .str "group"] by decide +kernel) (.inl ⟨rfl, rfl⟩))
  | row ps =>
    unfold PatAt at pt
    obtain ⟨bs, h1, h2⟩ := pt
    exact iteT (ra _ ps bs h1 h2 rfl rfl)
  | any ps =>
    unfold PatAt at pt
    obtain ⟨bs, h1, h2⟩ := pt
    exact iteT (ra _ ps bs h1 h2 rfl rfl)
  | again c lo hi =>
    unfold PatAt at pt
    obtain ⟨b, way, h1, h2⟩ := pt
    exact iteF (no true (show true = inV (.str "again") [.str "again", .str "group"] by decide +kernel) (.inr ⟨rfl, _, b, c, ⟨_, h1⟩, rfl, h2⟩))
  | group c =>
    unfold PatAt at pt
    obtain ⟨b, h1, h2⟩ := pt
    exact iteF (no true (show true = inV (.str "group") [.str "again", .str "group"] by decide +kernel) (.inr ⟨rfl, _, b, c, ⟨_, h1⟩, rfl, h2⟩))
end
end Own
namespace Own
open PySem PySem.Spec PyProof.Rows L2
theorem Pat.ok_kids {k : Nat} {p : Pat} (h : p.Ok k) : p.kids.length ≤ 4 ∧ ∀ c, c ∈ p.kids → c.Ok k := by
  cases p <;> simp only [Pat.Ok] at h
  · exact ⟨Nat.zero_le _, fun c h => by simp [Pat.kids] at h⟩
  · exact ⟨Nat.zero_le _, fun c h => by simp [Pat.kids] at h⟩
  · exact ⟨Nat.zero_le _, fun c h => by simp [Pat.kids] at h⟩
  · exact ⟨Pats.len_toL _ ▸ h.2, (Pats.ok_toL _).mp h.1⟩
  · exact ⟨Pats.len_toL _ ▸ h.2, (Pats.ok_toL _).mp h.1⟩
  · exact ⟨(show 1 ≤ 4 by decide), fun c hc => by rw [List.mem_singleton.mp hc]; exact h.1⟩
  · exact ⟨(show 1 ≤ 4 by decide), fun c hc => by rw [List.mem_singleton.mp hc]; exact h⟩
theorem str_ne {a b : Str} (h : a ≠ b) (e : V.str a = V.str b) : False := h (V.str.inj e)
theorem wt_one {p : Pat} (h : inV (.str p.nm) [.str "one", .str "empty"] = true) : p.wt = 1 := by
  cases p with
  | emp => rfl
  | one u => rfl
  | non => exact absurd h (show ¬ inV (.str "none") [.str "one", .str "empty"] = true by decide +kernel)
  | row ps => exact absurd h (show ¬ inV (.str "row") [.str "one", .str "empty"] = true by decide +kernel)
  | any ps => exact absurd h (show ¬ inV (.str "any") [.str "one", .str "empty"] = true by decide +kernel)
  | again c lo hi => exact absurd h (show ¬ inV (.str "again") [.str "one", .str "empty"] = true by decide +kernel)
  | group c => exact absurd h (show ¬ inV (.str "group") [.str "one", .str "empty"] = true by decide +kernel)
theorem nm_again {p : Pat} (h : p.nm = "again") : ∃ c lo hi, p = .again c lo hi := by
  cases p with
  | again c lo hi => exact ⟨_, _, _, rfl⟩
  | emp => exact absurd h (show ("empty" : Str) ≠ "again" by decide +kernel)
  | one u => exact absurd h (show ("one" : Str) ≠ "again" by decide +kernel)
  | non => exact absurd h (show ("none" : Str) ≠ "again" by decide +kernel)
  | row ps => exact absurd h (show ("row" : Str) ≠ "again" by decide +kernel)
  | any ps => exact absurd h (show ("any" : Str) ≠ "again" by decide +kernel)
  | group c => exact absurd h (show ("group" : Str) ≠ "again" by decide +kernel)
theorem wt_sum {p : Pat} (h : inV (.str p.nm) [.str "one", .str "empty"] = false) (h2 : p.nm ≠ "again") : p.wt = (p.kids.map Pat.wt).sum := by
  cases p with
  | again c lo hi => exact absurd rfl h2
  | emp => exact absurd h (show ¬ inV (.str "empty") [.str "one", .str "empty"] = false by decide +kernel)
  | one u => exact absurd h (show ¬ inV (.str "one") [.str "one", .str "empty"] = false by decide +kernel)
  | non => rfl
  | row ps => exact Pats.wt_toL ps
  | any ps => exact Pats.wt_toL ps
  | group c => exact (Nat.add_zero _).symm
theorem patsAt_get {K : PySem.W.Frag} {H : Hp} {ps : List Pat} {bs : List Addr} (h : PatsAt K H (Pats.ofL ps) bs) : bs.length = ps.length ∧ ∀ (i : Nat) (p : Pat) (b : Addr), ps[i]? = some p → bs[i]? = some b → PatAt K H p b := by
  have := (patsAt_iff _ _).mp h
  rwa [Pats.toL_ofL] at this
/-- one more than the sum over the parts, as an int -/
theorem sum_map_nV (L : List Nat) : ((L.map fun i => ((i : Nat) : Int))).sum = (L.sum : Nat) := by
  induction L with
  | nil => rfl
  | cons a r ih =>
    rw [List.map_cons, List.sum_cons, List.sum_cons, ih]
    omega
section
variable {P : Program} {w : World} {K : PySem.W.Frag} {mg : Str → Option Value} {base : Heap}
abbrev s_law_parts : Stmt := topS 51
theorem sc_law_parts : FnScope ["pattern", "part"] ["pattern"] (defScope s_law_parts) := ⟨rfl, rfl, rfl, by decide +kernel, rfl, by decide +kernel, by decide +kernel⟩
def sp_law_parts (K : PySem.W.Frag) (m : Nat) : Sp := fun vs H Q _ => ∃ (a : Addr) (p : Pat) (k : Nat), vs = [.ref a] ∧ PatAt K H p a ∧ p.Ok k ∧ p.depth < m ∧ ∀ H', Same H H' → Q (nV p.parts) H'
theorem ok_law_parts1 {f : Addr} {fd : FuncData} {m : Nat} (F : Fun K "_law_parts" "_law_parts" s_law_parts f fd) (B : Bt mg) (C_law_inner : Got P w K mg base CX0 1 "_law_inner" ["pattern"] (sp_law_inner K)) (C_law_parts : Got P w K mg base CX0 (1 + m) "_law_parts" ["pattern"] (sp_law_parts K m)) :
    FnOk P w K mg base CX0 (1 + m + 1) f fd ["pattern"] (sp_law_parts K (m + 1)) := by
  refine F.ok sc_law_parts (fun vs H Q E h => ?_) (fun cdv A outer s0 H vs Q E hr h => ?_)
  · obtain ⟨a, p, k, rfl, _⟩ := h
    rfl
  obtain ⟨a, p, k, rfl, pt, ok, hd, q⟩ := h
  have hr1 : Room 1 _ := hr.mono (by omega)
  obtain ⟨hk4, hko⟩ := Pat.ok_kids ok
  refine ⟨_, (pss_one (ps_ret (pe_op op_add pe_int (pe_callB (c_sum K) (by rfl) B.sum bt_sum (pa_cons (pe_lc (own := [("part", 1)]) rfl sc_law_parts.nd (p_list K (C_law_inner.call hr1 (by rfl) (pa_cons (pv 0) pa_nil))) (blkOk_by (by kernel_rfl)) (fun _ _ _ _ _ => (pg_name (i := 1) sc_law_parts.nd rfl (Or.inl rfl))) (fun _ _ _ _ _ => pts_nil) (fun _ _ _ _ _ => (C_law_parts.call hr (by rfl) (pa_cons (pv 1) pa_nil)))) pa_nil))))), ?_⟩
  refine ⟨_, rfl, a, p, rfl, pt, by omega, fun l bs H1 s1 hl pts => ?_⟩
  obtain ⟨hbl, hpt⟩ := patsAt_get pts
  refine ⟨l, rfl, ⟨_, SqL.of hl⟩, fun D nD => ?_⟩
  refine lc_map (walk_list (K := K) (a := l) (xs := bs.map V.ref)) nD (fun i => nV ((p.kids.getD i .non).parts)) (by rw [List.length_map, hbl]; exact small1000 (by omega)) (fun H2 s2 => SqL.of (s2 _ _ hl)) ?_ ?_
  · rintro i x H2 H3 hi s2 ⟨rfl, hx⟩ R hR
    rw [List.length_map] at hi
    rw [List.getElem?_map, List.getElem?_eq_getElem hi] at hx
    obtain rfl : V.ref bs[i] = x := Option.some.inj hx
    have hik : i < p.kids.length := by omega
    have eg : p.kids.getD i .non = p.kids[i] := by rw [List.getD_eq_getElem?_getD, List.getElem?_eq_getElem hik, Option.getD_some]
    rw [eg] at hR
    have hmem := List.getElem_mem hik
    have := Pat.depth_kids hmem
    refine ⟨rfl, _, rfl, bs[i], p.kids[i], k, rfl, (hpt i _ _ (List.getElem?_eq_getElem hik) (List.getElem?_eq_getElem hi)).same s2, hko _ hmem, by omega, hR⟩
  · intro H2 s2 e2
    refine ⟨D, (p.kids.map Pat.parts).map fun i => ((i : Nat) : Int), rfl, ?_, _, _, rfl, rfl, ?_⟩
    · refine SqL.of ?_
      rw [e2, List.length_map, hbl]
      congr 2
      rw [map_range_get p.kids _ (fun c => nV c.parts) (fun i x hx => by rw [List.getD_eq_getElem?_getD, hx, Option.getD_some]), List.map_map, List.map_map]
      rfl
    · have e : V.int (1 + (((p.kids.map Pat.parts).map fun i => ((i : Nat) : Int))).sum) = nV p.parts := by
        rw [sum_map_nV, Pat.parts_kids p]
        exact congrArg V.int (by omega)
      show Q (V.int (1 + (((p.kids.map Pat.parts).map fun i => ((i : Nat) : Int))).sum)) H2
      rw [e]
      exact q H2 (s1.trans s2)
theorem ok_law_parts0 {f : Addr} {fd : FuncData} (F : Fun K "_law_parts" "_law_parts" s_law_parts f fd) : FnOk P w K mg base CX0 1 f fd ["pattern"] (sp_law_parts K 0) := by
  refine F.ok (k := 0) sc_law_parts (fun vs H Q E h => ?_) (fun cdv A outer s0 H vs Q E hr h => ?_)
  · obtain ⟨a, p, k, rfl, _, _, h, _⟩ := h
    omega
  · obtain ⟨a, p, k, rfl, _, _, h, _⟩ := h
    omega
theorem ok_law_parts {f : Addr} {fd : FuncData} (F : Fun K "_law_parts" "_law_parts" s_law_parts f fd) (B : Bt mg) (C_law_inner : Got P w K mg base CX0 1 "_law_inner" ["pattern"] (sp_law_inner K)) (got : ∀ k sp, FnOk P w K mg base CX0 k f fd ["pattern"] sp → Got P w K mg base CX0 k "_law_parts" ["pattern"] sp) :
    ∀ m, FnOk P w K mg base CX0 (1 + m) f fd ["pattern"] (sp_law_parts K m)
  | 0 => ok_law_parts0 F
  | m + 1 => ok_law_parts1 F B C_law_inner (got _ _ (ok_law_parts F B C_law_inner got m))
abbrev s_law_weight : Stmt := topS 52
theorem sc_law_weight : FnScope ["pattern", "found", "part"] ["pattern"] (defScope s_law_weight) := ⟨rfl, rfl, rfl, by decide +kernel, rfl, by decide +kernel, by decide +kernel⟩
def sp_law_weight (K : PySem.W.Frag) (m : Nat) : Sp := fun vs H Q _ => ∃ (a : Addr) (p : Pat) (k : Nat), vs = [.ref a] ∧ PatAt K H p a ∧ p.Ok k ∧ p.depth < m ∧ ∀ H', Same H H' → Q (nV p.wt) H'
theorem ok_law_weight1 {f : Addr} {fd : FuncData} {m : Nat} (F : Fun K "_law_weight" "_law_weight" s_law_weight f fd) (B : Bt mg) (C_law_inner : Got P w K mg base CX0 1 "_law_inner" ["pattern"] (sp_law_inner K)) (C_law_weight : Got P w K mg base CX0 (1 + m) "_law_weight" ["pattern"] (sp_law_weight K m)) :
    FnOk P w K mg base CX0 (1 + m + 1) f fd ["pattern"] (sp_law_weight K (m + 1)) := by
  refine F.ok sc_law_weight (fun vs H Q E h => ?_) (fun cdv A outer s0 H vs Q E hr h => ?_)
  · obtain ⟨a, p, k, rfl, _⟩ := h
    rfl
  obtain ⟨a, p, k, rfl, pt, ok, hd, q⟩ := h
  have hr1 : Room 1 _ := hr.mono (by omega)
  obtain ⟨hk4, hko⟩ := Pat.ok_kids ok
  have two : ∀ n, n ≤ 10 → n ≤ sizeLine := fun n h => Nat.le_of_lt (small1000 (by omega))
  refine ⟨_, (pss_cons (ps_if (t_in K (p_ixt K (pv 0) pe_int) (pe_tup (pa_cons pe_str (pa_cons pe_str pa_nil)))) (pss_one (ps_ret pe_int)) pss_nil) (pss_cons (ps_set (i := 1) sc_law_weight.nd rfl (Or.inl rfl) (pe_callB (c_sum K) (by rfl) B.sum bt_sum (pa_cons (pe_lc (own := [("part", 2)]) rfl sc_law_weight.nd (p_list K (C_law_inner.call hr1 (by rfl) (pa_cons (pv 0) pa_nil))) (blkOk_by (by kernel_rfl)) (fun _ _ _ _ _ => (pg_name (i := 2) sc_law_weight.nd rfl (Or.inl rfl))) (fun _ _ _ _ _ => pts_nil) (fun _ _ _ _ _ => (C_law_weight.call hr (by rfl) (pa_cons (pv 2) pa_nil)))) pa_nil))) (pss_cons (ps_if (pt_cmpR op_eq (p_ixt K (pv 0) pe_int) pe_str (nomark _)) (pss_one (ps_ret (pe_op op_mul (pv 1) (pe_ifExp (pt_cmpR op_isN (p_ixt K (pv 0) pe_int) pe_non (nomark _)) (pe_op op_add (p_ixt K (pv 0) pe_int) pe_int) (p_ixt K (pv 0) pe_int))))) pss_nil) (pss_one (ps_ret (pv 1)))))), ?_⟩
  obtain ⟨tl, hsq⟩ := pt.head
  refine ⟨_, rfl, a, _, _, _, rfl, rfl, hsq, at0, two 2 (by decide), fun p1 np1 => ?_⟩
  have s1 := same_new np1 (.tup [V.str "one", V.str "empty"])
  refine ⟨p1, _, rfl, .inr SqT.new, rfl, rfl, inV (.str p.nm) [.str "one", .str "empty"], rfl, ?_⟩
  cases hb : inV (.str p.nm) [.str "one", .str "empty"] with
  | true =>
    have z := q _ s1
    rw [wt_one hb] at z
    exact iteT z
  | false =>
  refine iteF ⟨_, rfl, a, p, rfl, pt.same s1, by omega, fun l bs H1 s2 hl pts => ?_⟩
  obtain ⟨hbl, hpt⟩ := patsAt_get pts
  have s12 := s1.trans s2
  refine ⟨l, rfl, ⟨_, SqL.of hl⟩, fun D nD => ?_⟩
  refine lc_map (walk_list (K := K) (a := l) (xs := bs.map V.ref)) nD (fun i => nV ((p.kids.getD i .non).wt)) (by rw [List.length_map, hbl]; exact small1000 (by omega)) (fun H2 s2 => SqL.of (s2 _ _ hl)) ?_ ?_
  · rintro i x H2 H3 hi s2 ⟨rfl, hx⟩ R hR
    rw [List.length_map] at hi
    rw [List.getElem?_map, List.getElem?_eq_getElem hi] at hx
    obtain rfl : V.ref bs[i] = x := Option.some.inj hx
    have hik : i < p.kids.length := by omega
    have eg : p.kids.getD i .non = p.kids[i] := by rw [List.getD_eq_getElem?_getD, List.getElem?_eq_getElem hik, Option.getD_some]
    rw [eg] at hR
    have hmem := List.getElem_mem hik
    have := Pat.depth_kids hmem
    refine ⟨rfl, _, rfl, bs[i], p.kids[i], k, rfl, (hpt i _ _ (List.getElem?_eq_getElem hik) (List.getElem?_eq_getElem hi)).same s2, hko _ hmem, by omega, hR⟩
  · intro H2 s3 e2
    have s13 := s12.trans s3
    refine ⟨D, (p.kids.map Pat.wt).map fun i => ((i : Nat) : Int), rfl, ?_, ?_⟩
    · refine SqL.of ?_
      rw [e2, List.length_map, hbl]
      congr 2
      rw [map_range_get p.kids _ (fun c => nV c.wt) (fun i x hx => by rw [List.getD_eq_getElem?_getD, hx, Option.getD_some]), List.map_map, List.map_map]
      rfl
    · rw [sum_map_nV]
      refine ⟨_, rfl, a, _, _, _, rfl, rfl, Same.tup s13 hsq, at0, rfl, _, rfl, ite2 (fun c => ?_) (fun c => ?_)⟩
      · have c := V.str.inj (of_decide_eq_true c)
        obtain ⟨c1, lo, hi, rfl⟩ := nm_again c
        unfold PatAt at pt
        obtain ⟨b, way, h1, h2⟩ := pt
        have h1' := Same.tup s13 h1
        simp only [Pat.Ok] at ok
        obtain ⟨_, hlo, hhi⟩ := ok
        have ek : ((Pat.again c1 lo hi).kids.map Pat.wt).sum = c1.wt := Nat.add_zero _
        rw [ek]
        refine ⟨_, rfl, _, rfl, a, _, _, _, rfl, rfl, h1', at3, rfl, _, rfl, ?_⟩
        cases hi with
        | none =>
          refine iteT ⟨_, rfl, a, _, _, _, rfl, rfl, h1', at2, _, _, rfl, rfl, _, _, rfl, rfl, .inr ⟨by omega, by omega⟩, ?_⟩
          have e : V.int (((c1.wt : Nat) : Int) * ((lo : Int) + 1)) = nV (Pat.again c1 lo none).wt := congrArg V.int (by simp only [Pat.wt]; rw [Int.natCast_mul]; rfl)
          show Q (V.int (((c1.wt : Nat) : Int) * ((lo : Int) + 1))) H2
          rw [e]
          exact q H2 s13
        | some h =>
          have hh := hhi h rfl
          refine iteF ⟨_, rfl, a, _, _, _, rfl, rfl, h1', at3, _, _, rfl, rfl, .inr ⟨by omega, by omega⟩, ?_⟩
          have e : V.int (((c1.wt : Nat) : Int) * (h : Int)) = nV (Pat.again c1 lo (some h)).wt := congrArg V.int (by simp only [Pat.wt]; rw [Int.natCast_mul])
          show Q (V.int (((c1.wt : Nat) : Int) * (h : Int))) H2
          rw [e]
          exact q H2 s13
      · have c : p.nm ≠ "again" := fun z => c (decide_eq_true (congrArg V.str z))
        have z := q H2 s13
        rw [wt_sum hb c] at z
        exact ⟨_, rfl, z⟩
theorem ok_law_weight0 {f : Addr} {fd : FuncData} (F : Fun K "_law_weight" "_law_weight" s_law_weight f fd) : FnOk P w K mg base CX0 1 f fd ["pattern"] (sp_law_weight K 0) := by
  refine F.ok (k := 0) sc_law_weight (fun vs H Q E h => ?_) (fun cdv A outer s0 H vs Q E hr h => ?_)
  · obtain ⟨a, p, k, rfl, _, _, h, _⟩ := h
    omega
  · obtain ⟨a, p, k, rfl, _, _, h, _⟩ := h
    omega
theorem ok_law_weight {f : Addr} {fd : FuncData} (F : Fun K "_law_weight" "_law_weight" s_law_weight f fd) (B : Bt mg) (C_law_inner : Got P w K mg base CX0 1 "_law_inner" ["pattern"] (sp_law_inner K)) (got : ∀ k sp, FnOk P w K mg base CX0 k f fd ["pattern"] sp → Got P w K mg base CX0 k "_law_weight" ["pattern"] sp) :
    ∀ m, FnOk P w K mg base CX0 (1 + m) f fd ["pattern"] (sp_law_weight K m)
  | 0 => ok_law_weight0 F
  | m + 1 => ok_law_weight1 F B C_law_inner (got _ _ (ok_law_weight F B C_law_inner got m))
abbrev s_law_pattern : Stmt := topS 53
theorem sc_law_pattern : FnScope ["draw", "size", "most", "found"] ["draw", "size", "most"] (defScope s_law_pattern) := ⟨rfl, rfl, rfl, by decide +kernel, rfl, by decide +kernel, by decide +kernel⟩
def sp_law_pattern (K : PySem.W.Frag) : Sp := fun vs H Q _ => ∃ (d s : Addr) (k : Nat), vs = [.ref d, nV k, .int 5] ∧ 1 ≤ k ∧ k ≤ 3 ∧ DrawOk H d s ∧
  ∀ (a : Addr) (p : Pat) (H' : Hp), p.Ok k → p.depth ≤ 3 → p.wt ≤ 5 → But d H H' → DrawOk H' d s → PatAt K H' p a → Q (.ref a) H'
theorem ok_law_pattern {f : Addr} {fd : FuncData} (F : Fun K "_law_pattern" "_law_pattern" s_law_pattern f fd) (B : Bt mg) (C_law_grown : Got P w K mg base CX0 9 "_law_grown" ["draw", "size", "deep"] (sp_law_grown K 4)) (C_law_letters : Got P w K mg base CX0 4 "_law_letters" ["draw", "size"] sp_law_letters)
    (C_law_parts : Got P w K mg base CX0 5 "_law_parts" ["pattern"] (sp_law_parts K 4)) (C_law_weight : Got P w K mg base CX0 5 "_law_weight" ["pattern"] (sp_law_weight K 4)) : FnOk P w K mg base CX0 10 f fd ["draw", "size", "most"] (sp_law_pattern K) := by
  refine F.ok sc_law_pattern (fun vs H Q E h => ?_) (fun cdv A outer s0 H vs Q E hr h => ?_)
  · obtain ⟨d, s, k, rfl, _⟩ := h
    rfl
  obtain ⟨d, s, k, rfl, hk1, hk3, hd, q⟩ := h
  have hr4 : Room 4 _ := hr.mono (by decide)
  have hr5 : Room 5 _ := hr.mono (by decide)
  have two : ∀ n, n ≤ 10 → n ≤ sizeLine := fun n h => Nat.le_of_lt (small1000 (by omega))
  refine ⟨_, (pss_cons (ps_set (i := 3) sc_law_pattern.nd rfl (Or.inl rfl) (C_law_grown.call hr (by rfl) (pa_cons (pv 0) (pa_cons (pv 1) (pa_cons pe_int pa_nil))))) (pss_cons (ps_if (PW.pt (pw_or (pt_cmpR op_gt (C_law_parts.call hr5 (by rfl) (pa_cons (pv 3) pa_nil)) pe_int (nomark _)) (pw_or1 (pt_cmpR op_gt (C_law_weight.call hr5 (by rfl) (pa_cons (pv 3) pa_nil)) (pv 2) (nomark _))))) (pss_one (ps_set (i := 3) sc_law_pattern.nd rfl (Or.inl rfl) (C_law_grown.call hr (by rfl) (pa_cons (pv 0) (pa_cons (pv 1) (pa_cons pe_int pa_nil)))))) pss_nil) (pss_cons (ps_if (pt_cmpR op_gt (C_law_weight.call hr5 (by rfl) (pa_cons (pv 3) pa_nil)) (pv 2) (nomark _)) (pss_one (ps_set (i := 3) sc_law_pattern.nd rfl (Or.inl rfl) (pe_tup (pa_cons pe_str (pa_cons (C_law_letters.call hr4 (by rfl) (pa_cons (pv 0) (pa_cons (pv 1) pa_nil))) pa_nil))))) pss_nil) (pss_one (ps_ret (pv 3)))))), ?_⟩
  refine ⟨_, rfl, _, rfl, d, s, k, 3, rfl, by decide, hk1, hk3, hd, fun a p H1 ok dp b1 d1 pt => ?_⟩
  have fin : ∀ (a : Addr) (p : Pat) (H1 : Hp), p.Ok k → p.depth ≤ 3 → But d H H1 → DrawOk H1 d s → PatAt K H1 p a →
      tSeq (tIfS (tTest (tOp (rI0 fun i j => V.bl (decide (j < i))) (tCall (sp_law_weight K 4) [] E0 (tCons (tVar 3) tNil)) (tVar 2)))
          (tAsg (tTup (tCons (tC (V.str (Str.ofString "one"))) (tCons (tCall sp_law_letters [] E0 (tCons (tVar 0) (tCons (tVar 1) tNil))) tNil))) (gName 3)) tNext)
        (tRet (tVar 3)) { nx := fun x H' => Q V.non H', rt := Q } [some (.ref d), some (nV k), some (.int 5), some (.ref a)] H1 := by
    intro a p H1 ok dp b1 d1 pt
    refine ⟨_, rfl, a, p, k, rfl, pt, ok, by omega, fun H2 s2 => ⟨_, rfl, _, _, rfl, rfl, _, rfl, ite2 (fun c => ?_) (fun c => ?_)⟩⟩
    · refine ⟨_, rfl, _, rfl, d, s, k, rfl, hk1, hk3, d1.same s2, fun u H3 h1 h2 h3 b3 d3 => ⟨two 2 (by decide), fun a2 na => ?_⟩⟩
      have s4 := same_new na (.tup [V.str "one", V.str (tx u)])
      refine ⟨_, rfl, q a2 (.one u) _ (by simp only [Pat.Ok]; exact ⟨h1, h2, h3⟩) (by simp [Pat.depth]) (by simp [Pat.wt]) (((b1.same s2).trans b3).same s4) (d3.same s4) ?_⟩
      unfold PatAt
      exact .inl (.inl upd_same)
    · have c : ¬ ((5 : Int) < (p.wt : Nat)) := of_decide_eq_false (Bool.eq_false_iff.mpr c)
      exact ⟨_, rfl, q a p H2 ok dp (by omega) (b1.same s2) (d1.same s2) (pt.same s2)⟩
  have second : ∀ (a : Addr) (H2 : Hp), But d H H2 → DrawOk H2 d s → tAsg (tCall (sp_law_grown K 4) [] E0 (tCons (tVar 0) (tCons (tVar 1) (tCons (tC (V.int 1)) tNil)))) (gName 3)
      { nx := (tSeq (tIfS (tTest (tOp (rI0 fun i j => V.bl (decide (j < i))) (tCall (sp_law_weight K 4) [] E0 (tCons (tVar 3) tNil)) (tVar 2)))
          (tAsg (tTup (tCons (tC (V.str (Str.ofString "one"))) (tCons (tCall sp_law_letters [] E0 (tCons (tVar 0) (tCons (tVar 1) tNil))) tNil))) (gName 3)) tNext)
        (tRet (tVar 3)) { nx := fun x H' => Q V.non H', rt := Q }), rt := Q } [some (.ref d), some (nV k), some (.int 5), some (.ref a)] H2 := by
    intro a H2 b2 d2
    exact ⟨_, rfl, _, rfl, d, s, k, 1, rfl, by decide, hk1, hk3, d2, fun a2 p2 H3 ok2 dp2 b3 d3 pt2 => fin a2 p2 H3 ok2 (by omega) (b2.trans b3) d3 pt2⟩
  refine ⟨_, rfl, a, p, k, rfl, pt, ok, by omega, fun H2 s2 => ⟨_, _, rfl, rfl, _, rfl, ite2 (fun _ => iteT (second a H2 (b1.same s2) (d1.same s2))) (fun _ => ?_)⟩⟩
  refine ⟨_, rfl, a, p, k, rfl, pt.same s2, ok, by omega, fun H3 s3 => ⟨_, rfl, _, _, rfl, rfl, _, rfl, ite2 (fun _ => second a H3 ((b1.same s2).same s3) ((d1.same s2).same s3)) (fun _ => ?_)⟩⟩
  exact fin a p H3 ok dp ((b1.same s2).same s3) ((d1.same s2).same s3) ((pt.same s2).same s3)
end
end Own
namespace Own
open PySem PySem.Spec PyProof.Rows L2
/-- the numbers of a kind, in their order -/
structure Srt (S : List Nat) (A : Nat → Prop) : Prop where
  pw : S.Pairwise (· < ·)
  iff : ∀ j, j ∈ S ↔ A j
theorem Srt.len {S : List Nat} {A : Nat → Prop} (h : Srt S A) {b : Nat} (hb : ∀ j, A j → j ≤ b) : S.length ≤ b + 1 :=
  nodup_lt_length (b + 1) (h.pw.imp fun h e => by omega) fun x hx => by
    have := hb x ((h.iff x).mp hx)
    omega
theorem Srt.ext {S : List Nat} {A B : Nat → Prop} (h : Srt S A) (e : ∀ j, A j ↔ B j) : Srt S B := ⟨h.pw, fun j => (h.iff j).trans (e j)⟩
theorem ints_nat {F : List Nat} {ns : List Int} (h1 : ns.Pairwise (· < ·)) (h2 : ∀ k, k ∈ ns ↔ k ∈ F.map fun i => ((i : Nat) : Int)) : ∃ S : List Nat, ns.map V.int = S.map nV ∧ Srt S (· ∈ F) := by
  have hn : ∀ k, k ∈ ns → 0 ≤ k := fun k hk => by
    obtain ⟨i, _, rfl⟩ := List.mem_map.mp ((h2 k).mp hk)
    omega
  have e : ns = (ns.map Int.toNat).map fun i => ((i : Nat) : Int) := by
    rw [List.map_map]
    conv => lhs; rw [← List.map_id ns]
    exact List.map_congr_left fun k hk => by
      show k = ((k.toNat : Nat) : Int)
      have := hn k hk
      omega
  refine ⟨ns.map Int.toNat, ?_, ?_, fun j => ?_⟩
  · conv => lhs; rw [e]
    rw [List.map_map]
    rfl
  · refine List.pairwise_map.mpr ?_
    refine (List.Pairwise.and_mem.mp h1).imp fun {a b} h => ?_
    obtain ⟨ha, hb, hab⟩ := h
    have := hn a ha
    have := hn b hb
    omega
  · constructor
    · intro hj
      obtain ⟨k, hk, rfl⟩ := List.mem_map.mp hj
      obtain ⟨i, hi, e⟩ := List.mem_map.mp ((h2 k).mp hk)
      have : k.toNat = i := by omega
      rw [this]
      exact hi
    · intro hj
      exact List.mem_map.mpr ⟨(j : Int), (h2 _).mpr (List.mem_map.mpr ⟨j, hj, rfl⟩), rfl⟩
section
variable {P : Program} {w : World} {K : PySem.W.Frag} {mg : Str → Option Value} {base : Heap}
/-- sorted(set(l)) of a list of numbers -/
theorem srt_set {σ : L2.St} {H : Hp} {Q : VK} {i : Nat} {a : Addr} {F : List Nat} (hi : σ[i]? = some (some (.ref a))) (ha : SqL K H a (F.map nV)) (hl : F.length ≤ 4000)
    (q : ∀ (S : List Nat) (l : Addr) (H' : Hp), Srt S (· ∈ F) → Same H H' → H l = none → H' l = some (.lst (S.map nV)) → Q (.ref l) H') :
    tCB (rSorted1 w) (tCons (tCB (rSet1 w K) (tCons (tVar i) tNil)) tNil) σ H Q := by
  refine ⟨_, hi, a, F.map fun i => ((i : Nat) : Int), rfl, by rw [List.map_map]; exact ha, by rw [List.length_map]; omega, fun p c np => ?_⟩
  have s1 := same_new np (SetO w p (fun j => decide (j ∈ F.map fun i => ((i : Nat) : Int))) c)
  refine ⟨p, _, c, rfl, upd_same, fun ns l h1 h2 nl => ?_⟩
  obtain ⟨S, e, hS⟩ := ints_nat h1 fun k => (h2 k).trans (by rw [decide_eq_true_iff])
  refine q S l _ hS (s1.trans (same_new nl _)) (s1.free nl) ?_
  rw [upd_same, e]
abbrev s_law_ends_all : Stmt := topS 55
theorem sc_law_ends_all : FnScope ["pattern", "text", "places", "found", "place"] ["pattern", "text", "places"] (defScope s_law_ends_all) := ⟨rfl, rfl, rfl, by decide +kernel, rfl, by decide +kernel, by decide +kernel⟩
def sp_law_ends (K : PySem.W.Frag) (m : Nat) : Sp := fun vs H Q _ => ∃ (a : Addr) (p : Pat) (t : Word) (i k : Nat), vs = [.ref a, .str (tx t), nV i] ∧ PatAt K H p a ∧ p.Ok k ∧ k ≤ 3 ∧ p.depth < m ∧ Wd 3 t ∧ t.length ≤ 40 ∧ i ≤ t.length ∧
  ∀ (S : List Nat) (l : Addr) (H' : Hp), Srt S (Go (L p) t i) → Same H H' → H' l = some (.lst (S.map nV)) → Q (.ref l) H'
def sp_law_ends_all (K : PySem.W.Frag) (m : Nat) : Sp := fun vs H Q _ => ∃ (a b : Addr) (p : Pat) (t : Word) (S0 : List Nat) (k : Nat), vs = [.ref a, .str (tx t), .ref b] ∧ PatAt K H p a ∧ p.Ok k ∧ k ≤ 3 ∧ p.depth < m ∧ Wd 3 t ∧ t.length ≤ 40 ∧
  H b = some (.lst (S0.map nV)) ∧ S0.length ≤ 41 ∧ (∀ i, i ∈ S0 → i ≤ t.length) ∧ ∀ (S : List Nat) (l : Addr) (H' : Hp), Srt S (fun j => ∃ i, i ∈ S0 ∧ Go (L p) t i j) → Same H H' → H' l = some (.lst (S.map nV)) → Q (.ref l) H'
theorem ok_law_ends_all {f : Addr} {fd : FuncData} {m n : Nat} (F : Fun K "_law_ends_all" "_law_ends_all" s_law_ends_all f fd) (B : Bt mg) (C_law_ends : Got P w K mg base CX0 n "_law_ends" ["pattern", "text", "at"] (sp_law_ends K m)) :
    FnOk P w K mg base CX0 (n + 1) f fd ["pattern", "text", "places"] (sp_law_ends_all K m) := by
  refine F.ok sc_law_ends_all (fun vs H Q E h => ?_) (fun cdv A outer s0 H vs Q E hr h => ?_)
  · obtain ⟨a, b, p, t, S0, k, rfl, _⟩ := h
    rfl
  obtain ⟨a, b, p, t, S0, k, rfl, pt, ok, hk, dp, ht, htl, hb, hS0, hS1, q⟩ := h
  refine ⟨_, (pss_cons (ps_set (i := 3) sc_law_ends_all.nd rfl (Or.inl rfl) (pe_lst pa_nil)) (pss_cons (ps_for PassesOwn.never rfl (p_list K (pv 2)) (pg_name (i := 4) sc_law_ends_all.nd rfl (Or.inl rfl)) (pss_one (ps_set (i := 3) sc_law_ends_all.nd rfl (Or.inl rfl) (pe_op op_cat (pv 3) (C_law_ends.call hr (by rfl) (pa_cons (pv 0) (pa_cons (pv 1) (pa_cons (pv 4) pa_nil)))))))) (pss_one (ps_ret (pe_callB (call_sorted1 rfl) (by rfl) B.sorted bt_sorted (pa_cons (pe_callTy (c_set K) (by rfl) B.set bt_set (pa_cons (pv 3) pa_nil)) pa_nil)))))), ?_⟩
  refine ⟨by decide, fun l0 nl0 => ?_⟩
  have s1 := same_new nl0 (.lst [])
  refine ⟨_, rfl, b, rfl, ⟨_, SqL.of (s1 _ _ hb)⟩, for_list (K := K) (a := b) (xs := S0.map nV) (fun i σ H1 => ∃ (l1 : Addr) (F : List Nat) (v : Option V), σ = [some (.ref a), some (.str (tx t)), some (.ref b), some (.ref l1), v] ∧ Same H H1 ∧ H1 l1 = some (.lst (F.map nV)) ∧ F.length ≤ i * 41 ∧ ∀ j, j ∈ F ↔ ∃ x, x ∈ S0.take i ∧ Go (L p) t x j)
    ⟨l0, [], none, rfl, s1, upd_same, by simp, fun j => by simp⟩ (fun i σ H1 _ h => ?_) ?_ ?_⟩
  · obtain ⟨_, _, _, _, s2, _⟩ := h
    exact SqL.of (s2 _ _ hb)
  · rintro i x σ H1 hx ⟨l1, F, v, rfl, s2, hl1, hF, hin⟩
    rw [List.getElem?_map] at hx
    cases e : S0[i]? with
    | none =>
      rw [e] at hx
      cases hx
    | some y =>
    rw [e] at hx
    obtain rfl : nV y = x := Option.some.inj hx
    have hy := hS1 y (List.mem_of_getElem? e)
    have hi : i < S0.length := (List.getElem?_eq_some_iff.mp e).1
    refine ⟨_, rfl, _, rfl, _, rfl, _, rfl, a, p, t, y, k, rfl, pt.same s2, ok, hk, dp, ht, htl, hy, fun S l2 H2 hS s3 hl2 => ?_⟩
    have hSl := hS.len (b := t.length) fun j hj => hj.2.1
    refine ⟨l1, l2, _, _, rfl, rfl, s3 _ _ hl1, hl2, ?_, fun l3 nl3 => ?_⟩
    · rw [List.length_map, List.length_map, sizeLine_eq]
      have : i * 41 ≤ 41 * 41 := Nat.mul_le_mul_right 41 (by omega)
      omega
    refine ⟨l3, F ++ S, _, rfl, s2.trans (s3.trans (same_new nl3 _)), ?_, ?_, fun j => ?_⟩
    · rw [upd_same, List.map_append]
    · rw [List.length_append, Nat.add_mul]
      omega
    · rw [List.mem_append, hin, hS.iff, List.take_add_one, e]
      simp only [Option.toList_some, List.mem_append, List.mem_singleton]
      constructor
      · rintro (⟨x, h1, h2⟩ | h)
        · exact ⟨x, .inl h1, h2⟩
        · exact ⟨y, .inr rfl, h⟩
      · rintro ⟨x, h1 | rfl, h2⟩
        · exact .inl ⟨x, h1, h2⟩
        · exact .inr h2
  · rintro σ H1 ⟨l1, F, v, rfl, s2, hl1, hF, hin⟩
    rw [List.length_map] at hF hin
    rw [List.take_length] at hin
    refine srt_set (i := 3) rfl (SqL.of hl1) ?_ fun S l H2 hS s3 _ hl => ?_
    · have : S0.length * 41 ≤ 41 * 41 := Nat.mul_le_mul_right 41 hS0
      omega
    · exact q S l H2 (hS.ext hin) (s2.trans s3) hl
end
end Own
namespace Own
open PySem PySem.Spec PyProof.Rows L2
/-- data: lists of numbers -/
def dIs (L : List Nat) : PyData := .list (L.map fun i => .int (i : Nat))
theorem eqv_dI (u v : Nat) : PyData.eqv (.int (u : Nat)) (.int (v : Nat)) = decide (u = v) := by
  simp only [PyData.eqv]
  rw [Bool.eq_iff_iff, beq_iff_eq, decide_eq_true_iff]
  omega
theorem eqv_dIs (L M : List Nat) : PyData.eqv (dIs L) (dIs M) = decide (L = M) := by
  unfold dIs
  rw [PyData.eqv]
  exact eqvAll_map _ eqv_dI L M
theorem canLay_dIs (L : List Nat) : (dIs L).canLay0 = true := by
  unfold dIs
  rw [PyData.canLay0]
  exact canLay_map _ (fun x => by simp [PyData.canLay0]) L
theorem depth_dIs (L : List Nat) : (dIs L).depth ≤ 1 := by
  have h := depth_map (fun i : Nat => PyData.int (i : Nat)) 0 (fun x => by simp [PyData.depth]) L
  unfold dIs
  simp only [PyData.depth]
  omega
theorem shaped_dIs (L : List Nat) : SeqAt.shaped (dIs L) = true := by
  unfold SeqAt.shaped
  rw [canLay_dIs, decide_eq_true (Nat.le_trans (depth_dIs L) (by decide))]
  rfl
theorem dp_dIs {K : PySem.W.Frag} {H : Hp} {a : Addr} {L : List Nat} (h : SqL K H a (L.map nV)) : Dp K H (.ref a) (dIs L) := .lst h (dpAll_map _ _ L fun x _ => .int _)
theorem filt_get (S : List Nat) (P : Nat → Bool) : ((List.range S.length).filter fun i => P (S.getD i 0)).map (fun i => nV (S.getD i 0)) = (S.filter P).map nV := by
  induction S with
  | nil => rfl
  | cons a r ih =>
    rw [List.length_cons, List.range_succ_eq_map, List.filter_cons, List.filter_map, List.filter_cons]
    have e0 : ∀ i, (a :: r).getD (i + 1) 0 = r.getD i 0 := fun i => by simp [List.getD_eq_getElem?_getD]
    have e1 : (a :: r).getD 0 0 = a := rfl
    have e2 : ((fun i => P ((a :: r).getD i 0)) ∘ Nat.succ) = fun i => P (r.getD i 0) := by
      funext i
      show P ((a :: r).getD (i + 1) 0) = _
      rw [e0]
    have e3 : ((fun i => nV ((a :: r).getD i 0)) ∘ Nat.succ) = fun i => nV (r.getD i 0) := by
      funext i
      show nV ((a :: r).getD (i + 1) 0) = _
      rw [e0]
    rw [e1, e2]
    by_cases h : P a = true
    · rw [if_pos h, if_pos h, List.map_cons, List.map_cons, List.map_map, e3, ih, e1]
    · rw [if_neg h, if_neg h, List.map_map, e3, ih]
/-- sorted, of a list without doubles -/
theorem ints_perm {F : List Nat} (nd : F.Nodup) {ns : List Int} (h1 : ns.Perm (F.map fun i => ((i : Nat) : Int))) (h2 : ns.Pairwise (· ≤ ·)) : ∃ S : List Nat, ns.map V.int = S.map nV ∧ Srt S (· ∈ F) ∧ S.length = F.length := by
  have h3 : (F.map fun i => ((i : Nat) : Int)).Nodup := List.pairwise_map.mpr (nd.imp fun h e => h (by omega))
  have h4 : ns.Nodup := h1.nodup_iff.mpr h3
  have h5 : ns.Pairwise (· < ·) := (h2.and h4).imp fun {a b} h => by
    have := h.1
    have : a ≠ b := h.2
    omega
  obtain ⟨S, e, hS⟩ := ints_nat (F := F) h5 fun k => h1.mem_iff
  refine ⟨S, e, hS, ?_⟩
  have := congrArg List.length e
  rw [List.length_map, List.length_map, h1.length_eq, List.length_map] at this
  exact this.symm
/-- where both sides of an if go on alike -/
theorem ifs_cut {c : Bool} {A : TS} {D : Ends} {σ : L2.St} {H : Hp} (R : L2.St → Hp → Prop) (h1 : c = true → (∀ σ H, R σ H → D.nx σ H) → A D σ H) (h2 : c = false → R σ H) (rest : ∀ σ H, R σ H → D.nx σ H) :
    if c = true then A D σ H else tNext D σ H := by
  cases c with
  | true => exact h1 rfl rest
  | false => exact rest _ _ (h2 rfl)
theorem goN_none {A : Word → Prop} {t : Word} {i n : Nat} (h : ∀ j, ¬ GoN A t n i j) : ∀ d j, ¬ GoN A t (n + d) i j := by
  intro d
  induction d with
  | zero => exact h
  | succ d ih =>
    intro j hj
    obtain ⟨x, hx, _⟩ := goN_succ.mp (show GoN A t ((n + d) + 1) i j from hj)
    exact ih x hx
section
variable {P : Program} {w : World} {K : PySem.W.Frag} {mg : Str → Option Value} {base : Heap}
abbrev s_law_ends_again : Stmt := topS 56
theorem sc_law_ends_again : FnScope ["pattern", "text", "at", "word", "part", "low", "high", "way", "here", "found", "turn", "news", "place"] ["pattern", "text", "at"] (defScope s_law_ends_again) := ⟨rfl, rfl, rfl, by decide +kernel, rfl, by decide +kernel, by decide +kernel⟩
def sp_law_ends_again (K : PySem.W.Frag) (m : Nat) : Sp := fun vs H Q _ => ∃ (a : Addr) (p : Pat) (lo : Nat) (hi : Option Nat) (t : Word) (i k : Nat), vs = [.ref a, .str (tx t), nV i] ∧ PatAt K H (.again p lo hi) a ∧ (Pat.again p lo hi).Ok k ∧ k ≤ 3 ∧ p.depth < m ∧ Wd 3 t ∧ t.length ≤ 40 ∧ i ≤ t.length ∧
  ∀ (S : List Nat) (l : Addr) (H' : Hp), Srt S (Go (L (.again p lo hi)) t i) → Same H H' → H' l = some (.lst (S.map nV)) → Q (.ref l) H'
theorem ok_law_ends_again {f : Addr} {fd : FuncData} {m n : Nat} (F : Fun K "_law_ends_again" "_law_ends_again" s_law_ends_again f fd) (B : Bt mg) (C_law_ends_all : Got P w K mg base CX0 n "_law_ends_all" ["pattern", "text", "places"] (sp_law_ends_all K m)) :
    FnOk P w K mg base CX0 (n + 1) f fd ["pattern", "text", "at"] (sp_law_ends_again K m) := by
  refine F.ok sc_law_ends_again (fun vs H Q E h => ?_) (fun cdv A outer s0 H vs Q E hr h => ?_)
  · obtain ⟨a, p, lo, hi, t, i, k, rfl, _⟩ := h
    rfl
  obtain ⟨a, p, lo, hi, t, i, k, rfl, pt, ok, hk, dp, ht, htl, hit, q⟩ := h
  have two : ∀ n, n ≤ 10 → n ≤ sizeLine := fun n h => Nat.le_of_lt (small1000 (by omega))
  refine ⟨_, (pss_cons (ps_asg (pv 0) (g_tup K 5 (pgs_cons (pg_name (i := 3) sc_law_ends_again.nd rfl (Or.inl rfl)) (pgs_cons (pg_name (i := 4) sc_law_ends_again.nd rfl (Or.inl rfl)) (pgs_cons (pg_name (i := 5) sc_law_ends_again.nd rfl (Or.inl rfl)) (pgs_cons (pg_name (i := 6) sc_law_ends_again.nd rfl (Or.inl rfl)) (pgs_cons (pg_name (i := 7) sc_law_ends_again.nd rfl (Or.inl rfl)) pgs_nil))))))) (pss_cons (ps_asg (pe_tup (pa_cons (pe_lst (pa_cons (pv 2) pa_nil)) (pa_cons (pe_lst pa_nil) (pa_cons pe_int pa_nil)))) (g_tup K 3 (pgs_cons (pg_name (i := 8) sc_law_ends_again.nd rfl (Or.inl rfl)) (pgs_cons (pg_name (i := 9) sc_law_ends_again.nd rfl (Or.inr rfl)) (pgs_cons (pg_name (i := 10) sc_law_ends_again.nd rfl (Or.inl rfl)) pgs_nil))))) (pss_cons (ps_while PassesOwn.never (pt_cmpR (op_neD hr.units) (pv 8) (pe_lst pa_nil) (nomark _)) (pss_cons (ps_setLc (i := 11) (own := [("place", 12)]) rfl sc_law_ends_again.nd rfl rfl (sw_true rfl rfl rfl (by decide +kernel)) (p_list K (pv 8)) (blkOk_by (by kernel_rfl)) (fun _ _ _ _ _ => (pg_name (i := 12) sc_law_ends_again.nd rfl (Or.inl rfl))) (fun _ _ _ _ _ => (pts_one (t_nin K (pv 12) (pv 9)))) (fun _ _ _ _ _ => (pv 12))) (pss_cons (ps_if (pt_cmpR op_ge (pv 10) (pv 5) (nomark _)) (pss_one (ps_set (i := 9) sc_law_ends_again.nd rfl (Or.inr rfl) (pe_callB cr_sortedI (by rfl) B.sorted bt_sorted (pa_cons (pe_op op_cat (pv 9) (pv 11)) pa_nil)))) pss_nil) (pss_cons (ps_if (PW.pt (pw_or (pt_cmpR op_eq (pv 10) (pv 6) (nomark _)) (pw_or1 (PW.pt (pw_and (pt_cmpR op_ge (pv 10) (pv 5) (nomark _)) (pw_and1 (pt_cmpR (op_eqD hr.units) (pv 11) (pe_lst pa_nil) (nomark _)))))))) (pss_one (ps_ret (pv 9))) pss_nil) (pss_one (ps_par (i := 8) (j := 10) rfl sc_law_ends_again.nd rfl rfl (by decide) rfl rfl (pa_cons (C_law_ends_all.call hr (by rfl) (pa_cons (pv 4) (pa_cons (pv 1) (pa_cons (pv 8) pa_nil)))) (pa_cons (pe_op op_add (pv 10) pe_int) pa_nil)) (by rfl))))))) (pss_one (ps_ret (pv 9)))))), ?_⟩
  unfold PatAt at pt
  obtain ⟨b, way, hsq, pb⟩ := pt
  refine ⟨_, rfl, a, _, rfl, hsq, rfl, _, _, rfl, _, _, rfl, _, _, rfl, _, _, rfl, _, _, rfl, rfl, ?_⟩
  refine ⟨_, rfl, two 1 (by decide), fun l1 n1 => ⟨two 0 (by decide), fun l2 n2 => ⟨two 3 (by decide), fun tp ntp => ?_⟩⟩⟩
  have s1 := same_new n1 (.lst [nV i])
  have s2 := same_new n2 (.lst [])
  have s3 := same_new ntp (.tup [V.ref l1, V.ref l2, V.int 0])
  have s13 := (s1.trans s2).trans s3
  have h1 := s3 _ _ (s2 _ _ (show (upd H l1 (.lst [nV i])) l1 = some (.lst [nV i]) from upd_same))
  have h2 := s3 _ _ (show (upd (upd H l1 (.lst [nV i])) l2 (.lst [])) l2 = some (.lst []) from upd_same)
  simp only [Pat.Ok] at ok
  obtain ⟨okp, hlo, hhi⟩ := ok
  refine ⟨tp, _, rfl, SqT.new, rfl, _, _, rfl, _, _, rfl, _, _, rfl, rfl, ?_⟩
  have srt0 : Srt [i] (GoN (L p) t 0 i) := ⟨List.pairwise_singleton _ _, fun j => by rw [List.mem_singleton, goN_zero hit]⟩
  have srt1 : Srt [] (fun j => ∃ n, lo ≤ n ∧ n < 0 ∧ GoN (L p) t n i j) := ⟨List.Pairwise.nil, fun j => by simp⟩
  refine ⟨fun m σ H' => ∃ (turn : Nat) (h8 h9 : Addr) (Sh Sf : List Nat) (v11 v12 : Option V), m = (lo - turn) + (t.length + 2 - Sf.length) ∧ σ = [some (.ref a), some (.str (tx t)), some (nV i), some (.str "again"), some (.ref b), some (nV lo), some (Word.ofHi hi), some (.str way), some (.ref h8), some (.ref h9), some (nV turn), v11, v12] ∧
      Same H H' ∧ H' h8 = some (.lst (Sh.map nV)) ∧ H' h9 = some (.lst (Sf.map nV)) ∧ Srt Sh (GoN (L p) t turn i) ∧ Srt Sf (fun j => ∃ n, lo ≤ n ∧ n < turn ∧ GoN (L p) t n i j) ∧ ∀ h, hi = some h → turn ≤ h,
    ⟨_, 0, l1, l2, [i], [], none, none, rfl, rfl, s13, h1, h2, srt0, srt1, fun h e => Nat.zero_le _⟩, ?_⟩
  rintro m' σ H1 ⟨turn, h8, h9, Sh, Sf, v11, v12, hm, rfl, sH, hh8, hh9, SH, SF, hth⟩
  have hShl := SH.len (b := t.length) fun j hj => hj.2.1
  refine ⟨_, rfl, two 0 (by decide), fun pe npe => ?_⟩
  have s4 := same_new npe (.lst [])
  refine ⟨dIs Sh, dIs [], dp_dIs (SqL.of (s4 _ _ hh8)), dp_dIs (L := []) (SqL.of upd_same), shaped_dIs _, shaped_dIs _, _, rfl, ?_⟩
  rw [eqv_dIs]
  have sH4 := sH.trans s4
  by_cases hem : Sh = []
  · -- nothing is here
    rw [decide_eq_true hem]
    refine iteF ⟨_, rfl, q Sf h9 _ (SF.ext fun j => ?_) sH4 (s4 _ _ hh9)⟩
    rw [go_again]
    have hno : ∀ j, ¬ GoN (L p) t turn i j := fun j hj => by
      have := (SH.iff j).mpr hj
      rw [hem] at this
      simp at this
    constructor
    · rintro ⟨n, a1, a2, a3⟩
      exact ⟨n, ⟨a1, fun h e => by have := hth h e; omega⟩, a3⟩
    · rintro ⟨n, ⟨a1, a2⟩, a3⟩
      refine ⟨n, a1, ?_, a3⟩
      refine Classical.byContradiction fun hc => ?_
      have := goN_none hno (n - turn) j
      rw [show turn + (n - turn) = n by omega] at this
      exact this a3
  rw [decide_eq_false hem]
  refine iteT ⟨_, fun _ _ h => h, ?_⟩
  -- news
  refine ⟨_, rfl, h8, rfl, ⟨_, SqL.of (s4 _ _ hh8)⟩, fun D nD => ?_⟩
  refine lc_fm (walk_list (K := K) (a := h8) (xs := Sh.map nV)) nD (fun x => nV (Sh.getD x 0)) (fun x => !decide (Sh.getD x 0 ∈ Sf)) (by rw [List.length_map]; exact small1000 (by omega)) (fun H2 s2 => SqL.of (s2 _ _ (s4 _ _ hh8))) ?_ ?_
  · rintro x v H2 H3 hx s5 ⟨rfl, hv⟩ R R0 hR hR0
    rw [List.length_map] at hx
    rw [List.getElem?_map, List.getElem?_eq_getElem hx] at hv
    obtain rfl : nV Sh[x] = v := Option.some.inj hv
    have eg : Sh.getD x 0 = Sh[x] := by rw [List.getD_eq_getElem?_getD, List.getElem?_eq_getElem hx, Option.getD_some]
    rw [eg] at hR hR0
    refine ⟨rfl, _, rfl, _, rfl, h9, _, rfl, .inl (SqL.of (s5 _ _ (s4 _ _ hh9))), rfl, flat_nV Sf, !decide (Sh[x] ∈ Sf), congrArg (fun z => V.bl (!z)) (inV_nV Sf _), ?_⟩
    cases hb : decide (Sh[x] ∈ Sf) with
    | true => exact iteF (hR0 (by rw [hb]; rfl) _ (Same.refl _))
    | false => exact iteT ⟨_, rfl, hR (by rw [hb]; rfl) _ (Same.refl _)⟩
  intro H2 s5 hD
  rw [List.length_map, filt_get Sh (fun y => !decide (y ∈ Sf))] at hD
  have sH5 := sH4.trans s5
  have hh8' := s5 _ _ (s4 _ _ hh8)
  have hh9' := s5 _ _ (s4 _ _ hh9)
  have hnl : (Sh.filter fun y => !decide (y ∈ Sf)).length ≤ t.length + 1 := Nat.le_trans (List.length_filter_le _ _) hShl
  have hSfl := SF.len (b := t.length) fun j hj => by obtain ⟨_, _, _, z⟩ := hj; exact z.2.1
  have hnd : (Sf ++ Sh.filter fun y => !decide (y ∈ Sf)).Nodup := by
    refine List.nodup_append.mpr ⟨SF.pw.imp fun h e => by omega, (SH.pw.imp fun h e => by omega).filter _, ?_⟩
    intro x hx y hy e
    subst e
    have := (List.mem_filter.mp hy).2
    rw [decide_eq_true hx] at this
    cases this
  refine ⟨_, rfl, _, rfl, _, _, rfl, rfl, _, rfl, ?_⟩
  refine ifs_cut (fun σ H3 => ∃ (h9 : Addr) (Sf' : List Nat), σ = [some (.ref a), some (.str (tx t)), some (nV i), some (.str "again"), some (.ref b), some (nV lo), some (Word.ofHi hi), some (.str way), some (.ref h8), some (.ref h9), some (nV turn), some (.ref D), v12] ∧ Same H2 H3 ∧ H3 h9 = some (.lst (Sf'.map nV)) ∧
      Srt Sf' (fun j => ∃ n, lo ≤ n ∧ n < turn + 1 ∧ GoN (L p) t n i j) ∧ (turn < lo → Sf'.length = Sf.length) ∧ (lo ≤ turn → Sf'.length = Sf.length + (Sh.filter fun y => !decide (y ∈ Sf)).length)) (fun c hk => ?_) (fun c => ?_) ?_
  · have c : (lo : Int) ≤ (turn : Nat) := of_decide_eq_true c
    refine ⟨_, rfl, _, rfl, h9, D, _, _, rfl, rfl, hh9', hD, ?_, fun l3 n3 => ?_⟩
    · rw [List.length_map, List.length_map, sizeLine_eq]
      omega
    have s6 := same_new n3 (.lst (Sf.map nV ++ (Sh.filter fun y => !decide (y ∈ Sf)).map nV))
    refine ⟨l3, (Sf ++ Sh.filter fun y => !decide (y ∈ Sf)).map fun i => ((i : Nat) : Int), rfl, SqL.of (by rw [upd_same, List.map_map, List.map_append]; rfl), fun ns' l4 hp hpw n4 => ?_⟩
    obtain ⟨S, e, hS, hSl⟩ := ints_perm hnd hp hpw
    have s7 := same_new n4 (.lst (ns'.map V.int))
    refine hk _ _ ⟨l4, S, rfl, s6.trans s7, by rw [upd_same, e], hS.ext fun j => ?_, fun z => by omega, fun _ => by rw [hSl, List.length_append]⟩
    rw [List.mem_append, List.mem_filter]
    constructor
    · rintro (z | ⟨z, _⟩)
      · obtain ⟨n, a1, a2, a3⟩ := (SF.iff j).mp z
        exact ⟨n, a1, by omega, a3⟩
      · exact ⟨turn, by omega, by omega, (SH.iff j).mp z⟩
    · rintro ⟨n, a1, a2, a3⟩
      by_cases hn : n < turn
      · exact .inl ((SF.iff j).mpr ⟨n, a1, hn, a3⟩)
      · have hnt : n = turn := by omega
        subst hnt
        by_cases hj : j ∈ Sf
        · exact .inl hj
        · exact .inr ⟨(SH.iff j).mpr a3, by rw [decide_eq_false hj]; rfl⟩
  · have c : ¬ (lo : Int) ≤ (turn : Nat) := of_decide_eq_false c
    refine ⟨h9, Sf, rfl, Same.refl _, hh9', SF.ext fun j => ?_, fun _ => rfl, fun z => by omega⟩
    constructor
    · rintro ⟨n, a1, a2, a3⟩
      omega
    · rintro ⟨n, a1, a2, a3⟩
      omega
  rintro σ H3 ⟨h9, Sf', rfl, s6, hh9, SF', hl1', hl2'⟩
  have sH6 := sH5.trans s6
  have hhc : scal (nV turn) (Word.ofHi hi) = true := by cases hi <;> rfl
  refine ⟨_, rfl, _, rfl, hhc, _, rfl, ite2 (fun c => iteT ?_) (fun c => ?_)⟩
  · -- the last turn
    have c := of_decide_eq_true c
    have ehi : hi = some turn := by
      cases hi with
      | none => cases c
      | some h =>
        have c : V.int (turn : Nat) = V.int (h : Nat) := c
        have := V.int.inj c
        exact congrArg some (by omega)
    refine ⟨_, rfl, q Sf' h9 _ (SF'.ext fun j => ?_) sH6 hh9⟩
    rw [go_again, ehi]
    constructor
    · rintro ⟨n, a1, a2, a3⟩
      exact ⟨n, ⟨a1, fun h e => by obtain rfl := Option.some.inj e; omega⟩, a3⟩
    · rintro ⟨n, ⟨a1, a2⟩, a3⟩
      have := a2 turn rfl
      exact ⟨n, a1, by omega, a3⟩
  have c : ∀ h, hi = some h → turn + 1 ≤ h := fun h e => by
    have h1 := hth h e
    have h2 : turn ≠ h := fun z => c (decide_eq_true (by rw [e, z]; rfl))
    omega
  -- not the last one
  have goon : (Sh.filter fun y => !decide (y ∈ Sf)) ≠ [] ∨ turn < lo → ∀ H4, Same H3 H4 → tPar 8 10 (tCons (tCall (sp_law_ends_all K m) [] E0 (tCons (tVar 4) (tCons (tVar 1) (tCons (tVar 8) tNil)))) (tCons (tOp (rI0 fun i j => V.int (i + j)) (tVar 10) (tC (V.int 1))) tNil))
      { nx := fun σ' H' => ∃ m'', m'' < m' ∧ ∃ (turn : Nat) (h8 h9 : Addr) (Sh Sf : List Nat) (v11 v12 : Option V), m'' = (lo - turn) + (t.length + 2 - Sf.length) ∧ σ' = [some (.ref a), some (.str (tx t)), some (nV i), some (.str "again"), some (.ref b), some (nV lo), some (Word.ofHi hi), some (.str way), some (.ref h8), some (.ref h9), some (nV turn), v11, v12] ∧
      Same H H' ∧ H' h8 = some (.lst (Sh.map nV)) ∧ H' h9 = some (.lst (Sf.map nV)) ∧ Srt Sh (GoN (L p) t turn i) ∧ Srt Sf (fun j => ∃ n, lo ≤ n ∧ n < turn ∧ GoN (L p) t n i j) ∧ ∀ h, hi = some h → turn ≤ h, rt := Q } [some (.ref a), some (.str (tx t)), some (nV i), some (.str "again"), some (.ref b), some (nV lo), some (Word.ofHi hi), some (.str way), some (.ref h8), some (.ref h9), some (nV turn), some (.ref D), v12] H4 := by
    intro hne H4 s34
    refine ⟨_, rfl, _, rfl, _, rfl, b, h8, p, t, Sh, k, rfl, pb.same (sH6.trans s34), okp, hk, dp, ht, htl, s34 _ _ (s6 _ _ hh8'), by omega, fun j hj => (((SH.iff j).mp hj)).2.1, fun S l H5 hS s7 hl => ?_⟩
    refine ⟨_, rfl, _, _, rfl, rfl, _, _, rfl, ?_⟩
    have et : V.int (((turn : Nat) : Int) + 1) = nV (turn + 1) := congrArg V.int (by omega)
    refine ⟨_, ?_, turn + 1, l, h9, S, Sf', _, v12, rfl, by rw [← et]; rfl, (sH6.trans s34).trans s7, hl, s7 _ _ (s34 _ _ hh9), hS.ext fun j => ?_, SF', c⟩
    · rw [hm]
      rcases hne with hne | hne
      · by_cases hlt : turn < lo
        · have := hl1' hlt
          omega
        · have h1 := hl2' (by omega)
          have h2 := List.length_pos_iff.mpr hne
          have := SF'.len (b := t.length) fun j hj => by obtain ⟨_, _, _, z⟩ := hj; exact z.2.1
          omega
      · have := hl1' hne
        omega
    · rw [goN_succ]
      constructor
      · rintro ⟨x, h1, h2⟩
        exact ⟨x, (SH.iff x).mp h1, h2⟩
      · rintro ⟨x, h1, h2⟩
        exact ⟨x, (SH.iff x).mpr h1, h2⟩
  refine ⟨_, rfl, _, rfl, _, _, rfl, rfl, _, rfl, ite2 (fun c2 => ?_) (fun c2 => ?_)⟩
  · have c2 : (lo : Int) ≤ (turn : Nat) := of_decide_eq_true c2
    refine ⟨_, rfl, two 0 (by decide), fun pf npf => ?_⟩
    have s7 := same_new npf (.lst [])
    have hD3 := s7 _ _ (s6 _ _ hD)
    refine ⟨dIs (Sh.filter fun y => !decide (y ∈ Sf)), dIs [], dp_dIs (SqL.of hD3), dp_dIs (L := []) (SqL.of upd_same), shaped_dIs _, shaped_dIs _, _, rfl, ?_⟩
    rw [eqv_dIs]
    by_cases hn : (Sh.filter fun y => !decide (y ∈ Sf)) = []
    · rw [decide_eq_true hn]
      refine iteT ⟨_, rfl, q Sf' h9 _ (SF'.ext fun j => ?_) (sH6.trans s7) (s7 _ _ hh9)⟩
      have hold : ∀ j, GoN (L p) t turn i j → ∃ m, lo ≤ m ∧ m < turn ∧ GoN (L p) t m i j := by
        intro j hj
        have h1 := (SH.iff j).mpr hj
        have h2 : j ∈ Sf := Classical.byContradiction fun z => by
          have h3 : j ∈ Sh.filter fun y => !decide (y ∈ Sf) := List.mem_filter.mpr ⟨h1, by rw [decide_eq_false z]; rfl⟩
          rw [hn] at h3
          simp at h3
        exact (SF.iff j).mp h2
      rw [go_again]
      constructor
      · rintro ⟨n, a1, a2, a3⟩
        exact ⟨n, ⟨a1, fun h e => by have := c h e; omega⟩, a3⟩
      · rintro ⟨n, ⟨a1, a2⟩, a3⟩
        by_cases hlt : n < turn
        · exact ⟨n, a1, by omega, a3⟩
        · obtain ⟨x, b1, b2, b3⟩ := goN_stop hold (n - turn) j (by rw [show turn + (n - turn) = n by omega]; exact a3)
          exact ⟨x, b1, by omega, b3⟩
    · rw [decide_eq_false hn]
      exact goon (.inl hn) _ s7
  · have c2 : ¬ (lo : Int) ≤ (turn : Nat) := of_decide_eq_false (Bool.eq_false_iff.mpr c2)
    exact goon (.inr (by omega)) _ (Same.refl _)
end
end Own
namespace Own
open PySem PySem.Spec PyProof.Rows L2
theorem no_str {a b : Str} {A B : Prop} (hB : B) (h : decide (V.str a = V.str b) = false := by decide +kernel) : if decide (V.str a = V.str b) = true then A else B := by
  rw [h]
  exact iteF hB
theorem yes_str {a b : Str} {A B : Prop} (hA : A) (h : decide (V.str a = V.str b) = true := by decide +kernel) : if decide (V.str a = V.str b) = true then A else B := by
  rw [h]
  exact iteT hA
theorem go_row_snoc {p : Pat} {t : Word} : ∀ (l : List Pat) (i j : Nat), i ≤ t.length → (Go (LRow (Pats.ofL (l ++ [p]))) t i j ↔ ∃ x, Go (LRow (Pats.ofL l)) t i x ∧ Go (L p) t x j)
  | [], i, j, hi => by
    simp only [List.nil_append, Pats.ofL]
    rw [go_row_cons]
    constructor
    · rintro ⟨x, h1, h2⟩
      rw [go_row_nil h1.2.1] at h2
      subst h2
      exact ⟨i, (go_row_nil hi).mpr rfl, h1⟩
    · rintro ⟨x, h1, h2⟩
      rw [go_row_nil hi] at h1
      subst h1
      exact ⟨j, h2, (go_row_nil h2.2.1).mpr rfl⟩
  | a :: l, i, j, hi => by
    simp only [List.cons_append, Pats.ofL]
    rw [go_row_cons]
    constructor
    · rintro ⟨x, h1, h2⟩
      obtain ⟨y, h3, h4⟩ := (go_row_snoc l x j h1.2.1).mp h2
      exact ⟨y, go_row_cons.mpr ⟨x, h1, h3⟩, h4⟩
    · rintro ⟨y, h1, h2⟩
      obtain ⟨x, h3, h4⟩ := go_row_cons.mp h1
      exact ⟨x, h3, (go_row_snoc l x j h3.2.1).mpr ⟨y, h4, h2⟩⟩
theorem go_any {t : Word} {i j : Nat} : ∀ ps : Pats, Go (LAny ps) t i j ↔ ∃ p, p ∈ ps.toL ∧ Go (L p) t i j
  | .nil => by
    constructor
    · intro h
      exact absurd h go_any_nil
    · rintro ⟨p, h, _⟩
      simp [Pats.toL] at h
  | .cons a ps => by
    rw [go_any_cons, go_any ps, Pats.toL]
    constructor
    · rintro (h | ⟨p, h1, h2⟩)
      · exact ⟨a, List.mem_cons_self, h⟩
      · exact ⟨p, List.mem_cons_of_mem _ h1, h2⟩
    · rintro ⟨p, h1, h2⟩
      rcases List.mem_cons.mp h1 with rfl | h1
      · exact .inl h2
      · exact .inr ⟨p, h1, h2⟩
theorem L_row (ps : Pats) : L (.row ps) = LRow ps := by
  funext w
  rw [L]
theorem L_any (ps : Pats) : L (.any ps) = LAny ps := by
  funext w
  rw [L]
theorem L_group (p : Pat) : L (.group p) = L p := by
  funext w
  rw [L]
section
variable {P : Program} {w : World} {K : PySem.W.Frag} {mg : Str → Option Value} {base : Heap}
abbrev s_law_ends : Stmt := topS 54
theorem sc_law_ends : FnScope ["pattern", "text", "at", "word", "here", "part", "found"] ["pattern", "text", "at"] (defScope s_law_ends) := ⟨rfl, rfl, rfl, by decide +kernel, rfl, by decide +kernel, by decide +kernel⟩
theorem ok_law_ends1 {f : Addr} {fd : FuncData} {m n : Nat} (F : Fun K "_law_ends" "_law_ends" s_law_ends f fd) (B : Bt mg) (C_law_ends : Got P w K mg base CX0 n "_law_ends" ["pattern", "text", "at"] (sp_law_ends K m))
    (C_law_ends_all : Got P w K mg base CX0 (n + 1) "_law_ends_all" ["pattern", "text", "places"] (sp_law_ends_all K m)) (C_law_ends_again : Got P w K mg base CX0 (n + 2) "_law_ends_again" ["pattern", "text", "at"] (sp_law_ends_again K m)) :
    FnOk P w K mg base CX0 (n + 2 + 1) f fd ["pattern", "text", "at"] (sp_law_ends K (m + 1)) := by
  refine F.ok sc_law_ends (fun vs H Q E h => ?_) (fun cdv A outer s0 H vs Q E hr h => ?_)
  · obtain ⟨a, p, t, i, k, rfl, _⟩ := h
    rfl
  obtain ⟨a, p, t, i, k, rfl, pt, ok, hk, dp, ht, htl, hit, q⟩ := h
  have hr0 : Room n _ := hr.mono (by omega)
  have hr1 : Room (n + 1) _ := hr.mono (by omega)
  have two : ∀ n, n ≤ 10 → n ≤ sizeLine := fun n h => Nat.le_of_lt (small1000 (by omega))
  refine ⟨_, (pss_cons (ps_set (i := 3) sc_law_ends.nd rfl (Or.inl rfl) (p_ixt K (pv 0) pe_int)) (pss_cons (ps_if (pt_cmpR op_eq (pv 3) pe_str (nomark _)) (pss_one (ps_ret (pe_lst pa_nil))) pss_nil) (pss_cons (ps_if (pt_cmpR op_eq (pv 3) pe_str (nomark _)) (pss_one (ps_ret (pe_lst (pa_cons (pv 2) pa_nil)))) pss_nil) (pss_cons (ps_if (pt_cmpR op_eq (pv 3) pe_str (nomark _)) (pss_cons (ps_if (PW.pt (pw_or (pt_cmpR op_eq (pv 2) (pe_callB call_len_str (by rfl) B.len bt_len (pa_cons (pv 1) pa_nil)) (nomark _)) (pw_or1 (t_nins (p_ixs (pv 1) (pv 2)) (p_ixt K (pv 0) pe_int))))) (pss_one (ps_ret (pe_lst pa_nil))) pss_nil) (pss_one (ps_ret (pe_lst (pa_cons (pe_op op_add (pv 2) pe_int) pa_nil))))) pss_nil) (pss_cons (ps_if (pt_cmpR op_eq (pv 3) pe_str (nomark _)) (pss_one (ps_ret (C_law_ends.call hr0 (by rfl) (pa_cons (p_ixt K (pv 0) pe_int) (pa_cons (pv 1) (pa_cons (pv 2) pa_nil)))))) pss_nil) (pss_cons (ps_if (pt_cmpR op_eq (pv 3) pe_str (nomark _)) (pss_one (ps_ret (C_law_ends_again.call hr (by rfl) (pa_cons (pv 0) (pa_cons (pv 1) (pa_cons (pv 2) pa_nil)))))) pss_nil) (pss_cons (ps_set (i := 4) sc_law_ends.nd rfl (Or.inl rfl) (pe_lst (pa_cons (pv 2) pa_nil))) (pss_cons (ps_if (pt_cmpR op_eq (pv 3) pe_str (nomark _)) (pss_cons (ps_for PassesOwn.never rfl (p_tup K (pe_slice sl_tup (pv 0) (po_some pe_int) po_none)) (pg_name (i := 5) sc_law_ends.nd rfl (Or.inl rfl)) (pss_one (ps_set (i := 4) sc_law_ends.nd rfl (Or.inl rfl) (C_law_ends_all.call hr1 (by rfl) (pa_cons (pv 5) (pa_cons (pv 1) (pa_cons (pv 4) pa_nil))))))) (pss_one (ps_ret (pv 4)))) pss_nil) (pss_cons (ps_set (i := 6) sc_law_ends.nd rfl (Or.inl rfl) (pe_lst pa_nil)) (pss_cons (ps_for PassesOwn.never rfl (p_tup K (pe_slice sl_tup (pv 0) (po_some pe_int) po_none)) (pg_name (i := 5) sc_law_ends.nd rfl (Or.inl rfl)) (pss_one (ps_set (i := 6) sc_law_ends.nd rfl (Or.inl rfl) (pe_op op_cat (pv 6) (C_law_ends.call hr0 (by rfl) (pa_cons (pv 5) (pa_cons (pv 1) (pa_cons (pv 2) pa_nil)))))))) (pss_one (ps_ret (pe_callB (call_sorted1 rfl) (by rfl) B.sorted bt_sorted (pa_cons (pe_callTy (c_set K) (by rfl) B.set bt_set (pa_cons (pv 6) pa_nil)) pa_nil)))))))))))))), ?_⟩
  obtain ⟨tl, hsq⟩ := pt.head
  refine ⟨_, rfl, a, _, _, _, rfl, rfl, hsq, at0, ?_⟩
  obtain ⟨hk4, hko⟩ := Pat.ok_kids ok
  refine ⟨_, rfl, rfl, _, rfl, ?_⟩
  generalize hnm : p.nm = nm
  rw [hnm] at hsq
  cases p with
  | non =>
    obtain rfl : ("none" : Str) = nm := hnm
    refine yes_str ⟨two 0 (by decide), fun l nl => q [] l _ ⟨List.Pairwise.nil, fun j => ⟨fun h => by simp at h, fun h => absurd h go_non⟩⟩ (same_new nl _) upd_same⟩
  | emp =>
    obtain rfl : ("empty" : Str) = nm := hnm
    refine no_str ⟨_, rfl, rfl, _, rfl, yes_str ⟨_, rfl, two 1 (by decide), fun l nl => q [i] l _ ⟨List.pairwise_singleton _ _, fun j => by rw [List.mem_singleton, go_emp hit]⟩ (same_new nl _) upd_same⟩⟩
  | one u =>
    obtain rfl : ("one" : Str) = nm := hnm
    unfold PatAt at pt
    refine no_str ⟨_, rfl, rfl, _, rfl, no_str ⟨_, rfl, rfl, _, rfl, yes_str ?_⟩⟩
    refine ⟨_, rfl, _, rfl, tx t, rfl, by rw [tx_length]; exact Nat.le_of_lt (small1000 (by omega)), rfl, _, rfl, ite2 (fun c => ?_) (fun c => ?_)⟩
    · have c := V.int.inj (of_decide_eq_true c)
      rw [tx_length] at c
      refine iteT ⟨two 0 (by decide), fun l nl => q [] l _ ⟨List.Pairwise.nil, fun j => ⟨fun h => by simp at h, fun h => ?_⟩⟩ (same_new nl _) upd_same⟩
      obtain ⟨x, hx, _, _⟩ := go_one.mp h
      rw [List.getElem?_eq_none (by omega)] at hx
      cases hx
    · have c : i ≠ t.length := fun z => c (decide_eq_true (by rw [tx_length, z]; rfl))
      have hi : i < t.length := by omega
      have hgi : t[i]? = some t[i] := List.getElem?_eq_getElem hi
      refine ⟨_, rfl, _, rfl, tx t, _, t[i] + 97, rfl, rfl, by rw [tx_length]; exact Nat.le_of_lt (small1000 (by omega)), ?_, _, rfl, a, _, _, _, rfl, rfl, pt, at1, t[i] + 97, tx u, rfl, rfl, _, rfl, ?_⟩
      · refine atI_nat ?_
        rw [Array.getElem?_toList, tx_at, hgi]
        rfl
      have em : decide (t[i] + 97 ∈ (tx u).cps.toList) = decide (t[i] ∈ u) := by
        rw [Bool.eq_iff_iff, decide_eq_true_iff, decide_eq_true_iff, tx_cps]
        constructor
        · intro h
          obtain ⟨y, hy, e⟩ := List.mem_map.mp h
          have : y = t[i] := by omega
          rw [← this]
          exact hy
        · intro h
          exact List.mem_map.mpr ⟨_, h, rfl⟩
      rw [em]
      by_cases hin : t[i] ∈ u
      · rw [decide_eq_true hin]
        have e1 : V.int (((i : Nat) : Int) + 1) = nV (i + 1) := congrArg V.int (by omega)
        refine iteF ⟨_, rfl, _, _, rfl, rfl, two 1 (by decide), fun l nl => q [i + 1] l _ ⟨List.pairwise_singleton _ _, fun j => ?_⟩ (same_new nl _) (by rw [upd_same]; show some (HO.lst [V.int (((i : Nat) : Int) + 1)]) = _; rw [e1]; rfl)⟩
        rw [List.mem_singleton, go_one]
        constructor
        · rintro rfl
          exact ⟨t[i], hgi, hin, rfl⟩
        · rintro ⟨_, _, _, e⟩
          exact e
      · rw [decide_eq_false hin]
        refine iteT ⟨two 0 (by decide), fun l nl => q [] l _ ⟨List.Pairwise.nil, fun j => ⟨fun h => by simp at h, fun h => ?_⟩⟩ (same_new nl _) upd_same⟩
        obtain ⟨x, hx, hxu, _⟩ := go_one.mp h
        rw [hgi] at hx
        obtain rfl := Option.some.inj hx
        exact absurd hxu hin
  | group p =>
    obtain rfl : ("group" : Str) = nm := hnm
    unfold PatAt at pt
    obtain ⟨b, hsq2, pb⟩ := pt
    simp only [Pat.Ok] at ok
    simp only [Pat.depth] at dp
    rw [L_group] at q
    exact no_str ⟨_, rfl, rfl, _, rfl, no_str ⟨_, rfl, rfl, _, rfl, no_str ⟨_, rfl, rfl, _, rfl, yes_str ⟨_, rfl, a, _, _, _, rfl, rfl, hsq2, at1, _, rfl, _, rfl, b, p, t, i, k, rfl, pb, ok, hk, by omega, ht, htl, hit, q⟩⟩⟩⟩
  | again p lo hi =>
    obtain rfl : ("again" : Str) = nm := hnm
    simp only [Pat.depth] at dp
    exact no_str ⟨_, rfl, rfl, _, rfl, no_str ⟨_, rfl, rfl, _, rfl, no_str ⟨_, rfl, rfl, _, rfl, no_str ⟨_, rfl, rfl, _, rfl, yes_str ⟨_, rfl, _, rfl, _, rfl, a, p, lo, hi, t, i, k, rfl, pt, ok, hk, by omega, ht, htl, hit, q⟩⟩⟩⟩⟩
  | row ps =>
    obtain rfl : ("row" : Str) = nm := hnm
    unfold PatAt at pt
    obtain ⟨bs, hsq2, pbs⟩ := pt
    obtain ⟨hbl, hpt⟩ := (patsAt_iff _ _).mp pbs
    simp only [Pat.depth] at dp
    rw [L_row] at q
    refine no_str ⟨_, rfl, rfl, _, rfl, no_str ⟨_, rfl, rfl, _, rfl, no_str ⟨_, rfl, rfl, _, rfl, no_str ⟨_, rfl, rfl, _, rfl, no_str ⟨_, rfl, two 1 (by decide), fun l1 nl1 => ?_⟩⟩⟩⟩⟩
    have s1 := same_new nl1 (.lst [nV i])
    refine ⟨_, rfl, rfl, _, rfl, yes_str ?_⟩
    refine ⟨_, rfl, 1, rfl, a, _, rfl, Same.tup s1 hsq2, cut_ne _ _, fun p1 np1 => ?_⟩
    rw [cut_tail]
    have s2 := same_new np1 (.tup (bs.map V.ref))
    have s12 := s1.trans s2
    refine ⟨p1, rfl, ⟨_, SqT.new⟩, for_tup (K := K) (a := p1) (xs := bs.map V.ref) (fun x σ H2 => ∃ (l : Addr) (S : List Nat) (v : Option V), σ = [some (.ref a), some (.str (tx t)), some (nV i), some (.str "row"), some (.ref l), v, none] ∧ Same H H2 ∧ SqT K H2 p1 (bs.map V.ref) ∧ H2 l = some (.lst (S.map nV)) ∧ Srt S (Go (LRow (Pats.ofL (ps.toL.take x))) t i))
      ⟨l1, [i], none, rfl, s12, SqT.new, s2 _ _ upd_same, ⟨List.pairwise_singleton _ _, fun j => by rw [List.mem_singleton]; exact (go_row_nil hit).symm⟩⟩ (fun x σ H2 _ h => ?_) ?_ ?_⟩
    · obtain ⟨_, _, _, _, _, h, _⟩ := h
      exact h
    · rintro x v σ H2 hx ⟨l, S, v5, rfl, s3, hp1, hl, hS⟩
      rw [List.getElem?_map] at hx
      cases e : bs[x]? with
      | none =>
        rw [e] at hx
        cases hx
      | some b =>
      rw [e] at hx
      obtain rfl : V.ref b = v := Option.some.inj hx
      have hxl : x < ps.toL.length := by
        have := (List.getElem?_eq_some_iff.mp e).1
        omega
      have ek : ps.toL[x]? = some ps.toL[x] := List.getElem?_eq_getElem hxl
      have hmem := List.getElem_mem hxl
      have hdep := (Pats.depth_toL (m := ps.depth) ps).mp (Nat.le_refl _) _ hmem
      have hSl := hS.len (b := t.length) fun j hj => hj.2.1
      refine ⟨_, rfl, _, rfl, _, rfl, b, l, ps.toL[x], t, S, k, rfl, (hpt x _ _ ek e).same s3, hko _ hmem, hk, by omega, ht, htl, hl, by omega, fun y hy => ((hS.iff y).mp hy).2.1, fun S2 l2 H3 hS2 s4 hl2 => ?_⟩
      refine ⟨l2, S2, _, rfl, s3.trans s4, Same.tup s4 hp1, hl2, hS2.ext fun j => ?_⟩
      rw [List.take_add_one, ek, Option.toList_some, go_row_snoc _ _ _ hit]
      constructor
      · rintro ⟨y, h1, h2⟩
        exact ⟨y, (hS.iff y).mp h1, h2⟩
      · rintro ⟨y, h1, h2⟩
        exact ⟨y, (hS.iff y).mpr h1, h2⟩
    · rintro σ H2 ⟨l, S, v5, rfl, s3, hp1, hl, hS⟩
      rw [List.length_map, hbl, List.take_length, Pats.ofL_toL] at hS
      exact ⟨_, rfl, q S l H2 hS s3 hl⟩
  | any ps =>
    obtain rfl : ("any" : Str) = nm := hnm
    unfold PatAt at pt
    obtain ⟨bs, hsq2, pbs⟩ := pt
    obtain ⟨hbl, hpt⟩ := (patsAt_iff _ _).mp pbs
    simp only [Pat.depth] at dp
    rw [L_any] at q
    refine no_str ⟨_, rfl, rfl, _, rfl, no_str ⟨_, rfl, rfl, _, rfl, no_str ⟨_, rfl, rfl, _, rfl, no_str ⟨_, rfl, rfl, _, rfl, no_str ⟨_, rfl, two 1 (by decide), fun l1 nl1 => ?_⟩⟩⟩⟩⟩
    have s1 := same_new nl1 (.lst [nV i])
    refine ⟨_, rfl, rfl, _, rfl, no_str ⟨two 0 (by decide), fun l0 nl0 => ?_⟩⟩
    have s1' := s1.trans (same_new nl0 (.lst []))
    refine ⟨_, rfl, 1, rfl, a, _, rfl, Same.tup s1' hsq2, cut_ne _ _, fun p1 np1 => ?_⟩
    rw [cut_tail]
    have s2 := same_new np1 (.tup (bs.map V.ref))
    have s12 := s1'.trans s2
    refine ⟨p1, rfl, ⟨_, SqT.new⟩, for_tup (K := K) (a := p1) (xs := bs.map V.ref) (fun x σ H2 => ∃ (l : Addr) (F : List Nat) (v : Option V), σ = [some (.ref a), some (.str (tx t)), some (nV i), some (.str "any"), some (.ref l1), v, some (.ref l)] ∧ Same H H2 ∧ SqT K H2 p1 (bs.map V.ref) ∧ H2 l = some (.lst (F.map nV)) ∧ F.length ≤ x * 41 ∧ ∀ j, j ∈ F ↔ ∃ p, p ∈ ps.toL.take x ∧ Go (L p) t i j)
      ⟨l0, [], none, rfl, s12, SqT.new, s2 _ _ upd_same, by simp, fun j => by simp⟩ (fun x σ H2 _ h => ?_) ?_ ?_⟩
    · obtain ⟨_, _, _, _, _, h, _⟩ := h
      exact h
    · rintro x v σ H2 hx ⟨l, F, v5, rfl, s3, hp1, hl, hF, hin⟩
      rw [List.getElem?_map] at hx
      cases e : bs[x]? with
      | none =>
        rw [e] at hx
        cases hx
      | some b =>
      rw [e] at hx
      obtain rfl : V.ref b = v := Option.some.inj hx
      have hxl : x < ps.toL.length := by
        have := (List.getElem?_eq_some_iff.mp e).1
        omega
      have ek : ps.toL[x]? = some ps.toL[x] := List.getElem?_eq_getElem hxl
      have hmem := List.getElem_mem hxl
      have hdep := (Pats.depth_toL (m := ps.depth) ps).mp (Nat.le_refl _) _ hmem
      have hx4 : ps.toL.length ≤ 4 := hk4
      refine ⟨_, rfl, _, rfl, _, rfl, _, rfl, b, ps.toL[x], t, i, k, rfl, (hpt x _ _ ek e).same s3, hko _ hmem, hk, by omega, ht, htl, hit, fun S2 l2 H3 hS2 s4 hl2 => ?_⟩
      have hSl := hS2.len (b := t.length) fun j hj => hj.2.1
      refine ⟨l, l2, _, _, rfl, rfl, s4 _ _ hl, hl2, ?_, fun l3 nl3 => ?_⟩
      · rw [List.length_map, List.length_map, sizeLine_eq]
        have : x * 41 ≤ 4 * 41 := Nat.mul_le_mul_right 41 (by omega)
        omega
      have s5 := s4.trans (same_new nl3 (.lst (F.map nV ++ S2.map nV)))
      refine ⟨l3, F ++ S2, _, rfl, s3.trans s5, Same.tup s5 hp1, by rw [upd_same, List.map_append], by rw [List.length_append, Nat.add_mul]; omega, fun j => ?_⟩
      rw [List.mem_append, hin, hS2.iff, List.take_add_one, ek]
      simp only [Option.toList_some, List.mem_append, List.mem_singleton]
      constructor
      · rintro (⟨y, h1, h2⟩ | h)
        · exact ⟨y, .inl h1, h2⟩
        · exact ⟨_, .inr rfl, h⟩
      · rintro ⟨y, h1 | rfl, h2⟩
        · exact .inl ⟨y, h1, h2⟩
        · exact .inr h2
    · rintro σ H2 ⟨l, F, v5, rfl, s3, hp1, hl, hF, hin⟩
      rw [List.length_map, hbl] at hF hin
      rw [List.take_length] at hin
      have hx4 : ps.toL.length ≤ 4 := hk4
      refine srt_set (i := 6) rfl (SqL.of hl) ?_ fun S l2 H3 hS s4 _ hl2 => ?_
      · have : ps.toL.length * 41 ≤ 4 * 41 := Nat.mul_le_mul_right 41 hx4
        omega
      · exact q S l2 H3 (hS.ext fun j => (hin j).trans (go_any ps).symm) (s3.trans s4) hl2
theorem ok_law_ends0 {f : Addr} {fd : FuncData} (F : Fun K "_law_ends" "_law_ends" s_law_ends f fd) : FnOk P w K mg base CX0 1 f fd ["pattern", "text", "at"] (sp_law_ends K 0) := by
  refine F.ok (k := 0) sc_law_ends (fun vs H Q E h => ?_) (fun cdv A outer s0 H vs Q E hr h => ?_)
  · obtain ⟨a, p, t, i, k, rfl, _, _, _, h, _⟩ := h
    omega
  · obtain ⟨a, p, t, i, k, rfl, _, _, _, h, _⟩ := h
    omega
/-- all three, at each depth -/
theorem ok_law_ends {f f2 f3 : Addr} {fd fd2 fd3 : FuncData} (F : Fun K "_law_ends" "_law_ends" s_law_ends f fd) (F2 : Fun K "_law_ends_all" "_law_ends_all" s_law_ends_all f2 fd2) (F3 : Fun K "_law_ends_again" "_law_ends_again" s_law_ends_again f3 fd3) (B : Bt mg)
    (got : ∀ k sp, FnOk P w K mg base CX0 k f fd ["pattern", "text", "at"] sp → Got P w K mg base CX0 k "_law_ends" ["pattern", "text", "at"] sp)
    (got2 : ∀ k sp, FnOk P w K mg base CX0 k f2 fd2 ["pattern", "text", "places"] sp → Got P w K mg base CX0 k "_law_ends_all" ["pattern", "text", "places"] sp)
    (got3 : ∀ k sp, FnOk P w K mg base CX0 k f3 fd3 ["pattern", "text", "at"] sp → Got P w K mg base CX0 k "_law_ends_again" ["pattern", "text", "at"] sp) :
    ∀ m, FnOk P w K mg base CX0 (1 + 3 * m) f fd ["pattern", "text", "at"] (sp_law_ends K m)
  | 0 => ok_law_ends0 F
  | m + 1 => by
    have g1 := got _ _ (ok_law_ends F F2 F3 B got got2 got3 m)
    have g2 := got2 _ _ (ok_law_ends_all F2 B g1)
    have g3 := got3 _ _ (ok_law_ends_again F3 B g2)
    have g4 := ok_law_ends1 F B g1 g2 g3
    have e : 1 + 3 * m + 2 + 1 = 1 + 3 * (m + 1) := by omega
    rw [e] at g4
    exact g4
abbrev s_law_has : Stmt := topS 57
theorem sc_law_has : FnScope ["pattern", "text"] ["pattern", "text"] (defScope s_law_has) := ⟨rfl, rfl, rfl, by decide +kernel, rfl, by decide +kernel, by decide +kernel⟩
def sp_law_has (K : PySem.W.Frag) (m : Nat) : Sp := fun vs H Q _ => ∃ (a : Addr) (p : Pat) (t : Word) (k : Nat), vs = [.ref a, .str (tx t)] ∧ PatAt K H p a ∧ p.Ok k ∧ k ≤ 3 ∧ p.depth < m ∧ Wd 3 t ∧ t.length ≤ 40 ∧
  ∀ (b : Bool) (H' : Hp), (b = true ↔ L p t) → Same H H' → Q (.bl b) H'
theorem ok_law_has {f : Addr} {fd : FuncData} {m n : Nat} (F : Fun K "_law_has" "_law_has" s_law_has f fd) (B : Bt mg) (C_law_ends : Got P w K mg base CX0 n "_law_ends" ["pattern", "text", "at"] (sp_law_ends K m)) :
    FnOk P w K mg base CX0 (n + 1) f fd ["pattern", "text"] (sp_law_has K m) := by
  refine F.ok sc_law_has (fun vs H Q E h => ?_) (fun cdv A outer s0 H vs Q E hr h => ?_)
  · obtain ⟨a, p, t, k, rfl, _⟩ := h
    rfl
  obtain ⟨a, p, t, k, rfl, pt, ok, hk, dp, ht, htl, q⟩ := h
  refine ⟨_, (pss_one (ps_ret ((e_in K) (pe_callB call_len_str (by rfl) B.len bt_len (pa_cons (pv 1) pa_nil)) (C_law_ends.call hr (by rfl) (pa_cons (pv 0) (pa_cons (pv 1) (pa_cons pe_int pa_nil))))))), ?_⟩
  refine ⟨_, rfl, tx t, rfl, by rw [tx_length]; exact Nat.le_of_lt (small1000 (by omega)), _, rfl, _, rfl, a, p, t, 0, k, rfl, pt, ok, hk, dp, ht, htl, Nat.zero_le _, fun S l H1 hS s1 hl => ?_⟩
  refine ⟨l, _, rfl, .inl (SqL.of hl), rfl, flat_nV S, ?_⟩
  have e : inV (V.int ((tx t).length : Nat)) (S.map nV) = decide (t.length ∈ S) := by
    rw [tx_length]
    exact inV_nV S _
  show Q (.bl (inV (V.int ((tx t).length : Nat)) (S.map nV))) H1
  rw [e]
  refine q _ H1 ?_ s1
  rw [decide_eq_true_iff, hS.iff]
  unfold Go
  rw [seg_all]
  exact ⟨fun h => h.2.2, fun h => ⟨Nat.zero_le _, Nat.le_refl _, h⟩⟩
end
end Own
namespace Own
/-! nets: edges from a node to a node, by nothing or by one of some letters -/
abbrev Edge := Nat × List Nat × Nat
inductive Reach (E : List Edge) : Nat → Word → Prop
  | start : Reach E 0 []
  | eps {b l : Nat} {w : Word} : (b, [], l) ∈ E → Reach E b w → Reach E l w
  | step {b l a : Nat} {s : List Nat} {w : Word} : (b, s, l) ∈ E → a ∈ s → Reach E b w → Reach E l (w ++ [a])
/-- languages at nodes that keep to the edges -/
def Clo (A : Nat → Word → Prop) (N : List Edge) : Prop := ∀ e, e ∈ N → (e.2.1 = [] → ∀ w, A e.1 w → A e.2.2 w) ∧ ∀ a, a ∈ e.2.1 → ∀ w, A e.1 w → A e.2.2 (w ++ [a])
theorem Reach.sound {E : List Edge} {A : Nat → Word → Prop} (h0 : A 0 []) (h : Clo A E) {n : Nat} {w : Word} (r : Reach E n w) : A n w := by
  induction r with
  | start => exact h0
  | eps he _ ih => exact (h _ he).1 rfl _ ih
  | step he ha _ ih => exact (h _ he).2 _ ha _ ih
theorem Clo.nil {A : Nat → Word → Prop} : Clo A [] := fun e h => by simp at h
theorem Clo.append {A : Nat → Word → Prop} {M N : List Edge} (h : Clo A M) (h' : Clo A N) : Clo A (M ++ N) := fun e he => (List.mem_append.mp he).elim (h e) (h' e)
theorem Clo.congr {A B : Nat → Word → Prop} {N : List Edge} (h : Clo A N) (e : ∀ x, x ∈ N → B x.1 = A x.1 ∧ B x.2.2 = A x.2.2) : Clo B N := fun x hx => by
  rw [(e x hx).1, (e x hx).2]
  exact h x hx
def setL (A : Nat → Word → Prop) (c : Nat) (B : Word → Prop) : Nat → Word → Prop := fun x => if x = c then B else A x
theorem setL_ne {A : Nat → Word → Prop} {c x : Nat} {B : Word → Prop} (h : x ≠ c) : setL A c B x = A x := if_neg h
theorem setL_eq {A : Nat → Word → Prop} {c : Nat} {B : Word → Prop} : setL A c B c = B := if_pos rfl
def Cat (A B : Word → Prop) (w : Word) : Prop := ∃ u v, w = u ++ v ∧ A u ∧ B v
def ones (N : List Edge) : Nat := (N.filter fun e => !e.2.1.isEmpty).length
theorem ones_append (M N : List Edge) : ones (M ++ N) = ones M + ones N := by
  unfold ones
  rw [List.filter_append, List.length_append]
/-- what wiring does: from node b on, c the next node; late is where the words of G lead -/
structure Wired (k : Nat) (G : Word → Prop) (wt nb b c late c' : Nat) (N : List Edge) : Prop where
  le : c ≤ c'
  lt : late < c'
  cb : c' ≤ c + nb
  eb : N.length ≤ nb
  src : ∀ e, e ∈ N → e.1 = b ∨ (c ≤ e.1 ∧ e.1 < c')
  tgt : ∀ e, e ∈ N → c ≤ e.2.2 ∧ e.2.2 < c'
  letr : ∀ e, e ∈ N → Wd k e.2.1 ∧ e.2.1.length ≤ 3
  one : ones N ≤ wt
  at' : late = b ∨ c ≤ late
  snd : ∀ A : Nat → Word → Prop, ∃ A' : Nat → Word → Prop, (∀ x, x < c → A' x = A x) ∧ Clo A' N ∧ ∀ w, A' late w → Cat (A b) G w
  cmp : ∀ E'' : List Edge, (∀ e, e ∈ N → e ∈ E'') → ∀ u v, Reach E'' b u → G v → Reach E'' late (u ++ v)
section
variable {k wt nb b c late c' : Nat} {G : Word → Prop} {N : List Edge}
theorem Wired.congr {G' : Word → Prop} (W : Wired k G wt nb b c late c' N) (e : ∀ w, G w ↔ G' w) : Wired k G' wt nb b c late c' N := by
  have z : G = G' := funext fun w => propext (e w)
  rw [← z]
  exact W
theorem Wired.weak {wt' nb' : Nat} (W : Wired k G wt nb b c late c' N) (h1 : wt ≤ wt') (h2 : nb ≤ nb') : Wired k G wt' nb' b c late c' N :=
  { W with cb := by have := W.cb; omega, eb := by have := W.eb; omega, one := by have := W.one; omega }
theorem Wired.refl (hb : b < c) : Wired k (· = []) 0 0 b c b c [] where
  le := Nat.le_refl _
  lt := hb
  cb := Nat.le_refl _
  eb := Nat.le_refl _
  src := fun e h => by simp at h
  tgt := fun e h => by simp at h
  letr := fun e h => by simp at h
  one := Nat.le_refl _
  at' := .inl rfl
  snd := fun A => ⟨A, fun _ _ => rfl, Clo.nil, fun w h => ⟨w, [], by simp, h, rfl⟩⟩
  cmp := fun E'' _ u v hr hv => by rw [hv, List.append_nil]; exact hr
theorem Wired.non : Wired k (L .non) 0 1 b c c (c + 1) [] where
  le := Nat.le_succ _
  lt := Nat.lt_succ_self _
  cb := Nat.le_refl _
  eb := Nat.zero_le _
  src := fun e h => by simp at h
  tgt := fun e h => by simp at h
  letr := fun e h => by simp at h
  one := Nat.le_refl _
  at' := .inr (Nat.le_refl _)
  snd := fun A => ⟨setL A c fun _ => False, fun x hx => setL_ne (by omega), Clo.nil, fun w h => by
    rw [setL_eq] at h
    exact h.elim⟩
  cmp := fun E'' _ u v _ hv => by
    unfold L at hv
    exact hv.elim
theorem Wired.emp (hb : b < c) : Wired k (L .emp) 1 1 b c c (c + 1) [(b, [], c)] where
  le := Nat.le_succ _
  lt := Nat.lt_succ_self _
  cb := Nat.le_refl _
  eb := Nat.le_refl _
  src := fun e h => by
    rw [List.mem_singleton.mp h]
    exact .inl rfl
  tgt := fun e h => by
    rw [List.mem_singleton.mp h]
    exact ⟨Nat.le_refl _, Nat.lt_succ_self _⟩
  letr := fun e h => by
    rw [List.mem_singleton.mp h]
    exact ⟨fun x hx => by simp at hx, Nat.zero_le _⟩
  one := Nat.zero_le _
  at' := .inr (Nat.le_refl _)
  snd := fun A => ⟨setL A c (A b), fun x hx => setL_ne (by omega), fun e h => by
    rw [List.mem_singleton.mp h]
    refine ⟨fun _ w hw => ?_, fun a ha => by simp at ha⟩
    show setL A c (A b) c w
    have hw : setL A c (A b) b w := hw
    rw [setL_ne (by omega)] at hw
    rw [setL_eq]
    exact hw, fun w h => by
    rw [setL_eq] at h
    exact ⟨w, [], by simp, h, by unfold L; rfl⟩⟩
  cmp := fun E'' he u v hr hv => by
    unfold L at hv
    rw [hv, List.append_nil]
    exact .eps (he _ (List.mem_singleton.mpr rfl)) hr
theorem Wired.oneL {s : List Nat} (hb : b < c) (hs : Wd k s) (hl : s.length ≤ 3) (hne : s ≠ []) : Wired k (L (.one s)) 1 1 b c c (c + 1) [(b, s, c)] where
  le := Nat.le_succ _
  lt := Nat.lt_succ_self _
  cb := Nat.le_refl _
  eb := Nat.le_refl _
  src := fun e h => by
    rw [List.mem_singleton.mp h]
    exact .inl rfl
  tgt := fun e h => by
    rw [List.mem_singleton.mp h]
    exact ⟨Nat.le_refl _, Nat.lt_succ_self _⟩
  letr := fun e h => by
    rw [List.mem_singleton.mp h]
    exact ⟨hs, hl⟩
  one := List.length_filter_le _ _
  at' := .inr (Nat.le_refl _)
  snd := fun A => ⟨setL A c (Cat (A b) (L (.one s))), fun x hx => setL_ne (by omega), fun e h => by
    rw [List.mem_singleton.mp h]
    refine ⟨fun z => absurd z hne, fun a ha w hw => ?_⟩
    show setL A c (Cat (A b) (L (.one s))) c (w ++ [a])
    have hw : setL A c (Cat (A b) (L (.one s))) b w := hw
    rw [setL_ne (by omega)] at hw
    rw [setL_eq]
    exact ⟨w, [a], rfl, hw, by unfold L; exact ⟨a, ha, rfl⟩⟩, fun w h => by
    rwa [setL_eq] at h⟩
  cmp := fun E'' he u v hr hv => by
    unfold L at hv
    obtain ⟨a, ha, rfl⟩ := hv
    exact .step (he _ (List.mem_singleton.mpr rfl)) ha hr
theorem Wired.seq {G2 : Word → Prop} {wt2 nb2 l2 c2 : Nat} {N2 : List Edge} (hb : b < c) (W : Wired k G wt nb b c late c' N) (W2 : Wired k G2 wt2 nb2 late c' l2 c2 N2) : Wired k (Cat G G2) (wt + wt2) (nb + nb2) b c l2 c2 (N ++ N2) where
  le := Nat.le_trans W.le W2.le
  lt := W2.lt
  cb := by have := W.cb; have := W2.cb; omega
  eb := by have := W.eb; have := W2.eb; rw [List.length_append]; omega
  src := fun e h => by
    have h1 := W.le
    have h2 := W2.le
    rcases List.mem_append.mp h with h | h
    · rcases W.src e h with z | z
      · exact .inl z
      · exact .inr ⟨z.1, by omega⟩
    · rcases W2.src e h with z | z
      · rw [z]
        rcases W.at' with y | y
        · exact .inl y
        · have := W.lt
          exact .inr ⟨y, by omega⟩
      · exact .inr ⟨by omega, z.2⟩
  tgt := fun e h => by
    have h1 := W.le
    have h2 := W2.le
    rcases List.mem_append.mp h with h | h
    · have := W.tgt e h
      omega
    · have := W2.tgt e h
      omega
  letr := fun e h => (List.mem_append.mp h).elim (W.letr e) (W2.letr e)
  one := by rw [ones_append]; have := W.one; have := W2.one; omega
  at' := by
    have h1 := W.le
    rcases W2.at' with z | z
    · rw [z]
      exact W.at'
    · exact .inr (by omega)
  snd := fun A => by
    obtain ⟨A1, e1, k1, g1⟩ := W.snd A
    obtain ⟨A2, e2, k2, g2⟩ := W2.snd A1
    have h1 := W.le
    refine ⟨A2, fun x hx => (e2 x (by omega)).trans (e1 x hx), (k1.congr fun x hx => ⟨e2 _ ?_, e2 _ (W.tgt x hx).2⟩).append k2, fun w hw => ?_⟩
    · rcases W.src x hx with z | z
      · rw [z]
        omega
      · exact z.2
    · obtain ⟨u, v, rfl, hu, hv⟩ := g2 w hw
      obtain ⟨u1, u2, rfl, h3, h4⟩ := g1 u hu
      exact ⟨u1, u2 ++ v, by rw [List.append_assoc], h3, u2, v, rfl, h4, hv⟩
  cmp := fun E'' he u v hr hv => by
    obtain ⟨v1, v2, rfl, h1, h2⟩ := hv
    rw [← List.append_assoc]
    exact W2.cmp E'' (fun e h => he e (List.mem_append_right _ h)) _ _ (W.cmp E'' (fun e h => he e (List.mem_append_left _ h)) _ _ hr h1) h2
/-- one more of several: they all come to node c -/
theorem Wired.more {G2 : Word → Prop} {wt2 nb2 l2 c2 : Nat} {N2 : List Edge} (hb : b < c) (W : Wired k G wt nb b c c c' N) (hc : ∀ e, e ∈ N → e.1 ≠ c) (W2 : Wired k G2 wt2 nb2 b c' l2 c2 N2) :
    Wired k (fun w => G w ∨ G2 w) (wt + wt2) (nb + (nb2 + 1)) b c c c2 (N ++ (N2 ++ [(l2, [], c)])) ∧ ∀ e, e ∈ N ++ (N2 ++ [(l2, [], c)]) → e.1 ≠ c := by
  have h1 := W.le
  have h2 := W2.le
  have h3 := W.lt
  have hl2 : l2 ≠ c := by
    rcases W2.at' with z | z <;> omega
  have hN2 : ∀ e, e ∈ N2 → e.1 ≠ c := fun e h => by
    rcases W2.src e h with z | z <;> omega
  refine ⟨{ le := by omega, lt := by omega, cb := by have := W.cb; have := W2.cb; omega, eb := ?_, src := fun e h => ?_, tgt := fun e h => ?_, letr := fun e h => ?_, one := ?_, at' := .inr (Nat.le_refl _), snd := fun A => ?_, cmp := fun E'' he u v hr hv => ?_ }, fun e h => ?_⟩
  · have := W.eb
    have := W2.eb
    rw [List.length_append, List.length_append]
    show N.length + (N2.length + 1) ≤ _
    omega
  · rcases List.mem_append.mp h with h | h
    · rcases W.src e h with z | z
      · exact .inl z
      · exact .inr ⟨z.1, by omega⟩
    · rcases List.mem_append.mp h with h | h
      · rcases W2.src e h with z | z
        · exact .inl z
        · exact .inr ⟨by omega, z.2⟩
      · rw [List.mem_singleton.mp h]
        rcases W2.at' with z | z
        · exact .inl z
        · have := W2.lt
          exact .inr ⟨by show c ≤ l2; omega, this⟩
  · rcases List.mem_append.mp h with h | h
    · have := W.tgt e h
      omega
    · rcases List.mem_append.mp h with h | h
      · have := W2.tgt e h
        omega
      · rw [List.mem_singleton.mp h]
        exact ⟨Nat.le_refl _, by show c < c2; omega⟩
  · rcases List.mem_append.mp h with h | h
    · exact W.letr e h
    · rcases List.mem_append.mp h with h | h
      · exact W2.letr e h
      · rw [List.mem_singleton.mp h]
        exact ⟨fun x hx => by simp at hx, Nat.zero_le _⟩
  · rw [ones_append, ones_append]
    have := W.one
    have := W2.one
    have : ones [(l2, ([] : List Nat), c)] = 0 := rfl
    omega
  · obtain ⟨A1, e1, k1, g1⟩ := W.snd A
    obtain ⟨A2, e2, k2, g2⟩ := W2.snd A1
    refine ⟨setL A2 c fun w => A2 c w ∨ A2 l2 w, fun x hx => ?_, ?_, fun w hw => ?_⟩
    · rw [setL_ne (by omega), e2 x (by omega), e1 x hx]
    · refine Clo.append ?_ (Clo.append ?_ ?_)
      · intro e he
        have hs := hc e he
        have hsl : e.1 < c' := by
          rcases W.src e he with z | z
          · rw [z]; omega
          · exact z.2
        have ht := (W.tgt e he).2
        have q := k1 e he
        have up : ∀ w, A2 e.2.2 w → setL A2 c (fun w => A2 c w ∨ A2 l2 w) e.2.2 w := fun w hw => by
          by_cases z : e.2.2 = c
          · rw [z] at hw ⊢
            rw [setL_eq]
            exact .inl hw
          · rwa [setL_ne z]
        refine ⟨fun z w hw => ?_, fun a ha w hw => ?_⟩
        · rw [setL_ne hs, e2 _ hsl] at hw
          refine up w ?_
          rw [e2 _ ht]
          exact q.1 z w hw
        · rw [setL_ne hs, e2 _ hsl] at hw
          refine up (w ++ [a]) ?_
          rw [e2 _ ht]
          exact q.2 a ha w hw
      · exact k2.congr fun x hx => ⟨setL_ne (hN2 x hx), setL_ne (by have := (W2.tgt x hx).1; omega)⟩
      · intro e he
        rw [List.mem_singleton.mp he]
        refine ⟨fun _ w hw => ?_, fun a ha => by simp at ha⟩
        show setL A2 c (fun w => A2 c w ∨ A2 l2 w) c w
        have hw : setL A2 c (fun w => A2 c w ∨ A2 l2 w) l2 w := hw
        rw [setL_ne hl2] at hw
        rw [setL_eq]
        exact .inr hw
    · rw [setL_eq] at hw
      rcases hw with hw | hw
      · rw [e2 c (by omega)] at hw
        obtain ⟨u, v, rfl, hu, hv⟩ := g1 w hw
        exact ⟨u, v, rfl, hu, .inl hv⟩
      · obtain ⟨u, v, rfl, hu, hv⟩ := g2 w hw
        rw [e1 b hb] at hu
        exact ⟨u, v, rfl, hu, .inr hv⟩
  · rcases hv with hv | hv
    · exact W.cmp E'' (fun e h => he e (List.mem_append_left _ h)) u v hr hv
    · exact .eps (he _ (List.mem_append_right _ (List.mem_append_right _ (List.mem_singleton.mpr rfl)))) (W2.cmp E'' (fun e h => he e (List.mem_append_right _ (List.mem_append_left _ h))) u v hr hv)
  · rcases List.mem_append.mp h with h | h
    · exact hc e h
    · rcases List.mem_append.mp h with h | h
      · exact hN2 e h
      · rw [List.mem_singleton.mp h]
        exact hl2
end
end Own
namespace Own
/-- an edge by nothing to a new node -/
theorem Wired.epsE {k b c : Nat} (hb : b < c) : Wired k (· = []) 0 1 b c c (c + 1) [(b, [], c)] :=
  let W := (Wired.emp (k := k) hb).congr (G' := (· = [])) fun w => by unfold L; exact Iff.rfl
  { W with one := Nat.le_refl _ }
theorem cat_nil {A : Word → Prop} {w : Word} : Cat A (· = []) w ↔ A w := by
  constructor
  · rintro ⟨u, v, rfl, h, rfl⟩
    rwa [List.append_nil]
  · intro h
    exact ⟨w, [], by simp, h, rfl⟩
theorem pow_split {A : Word → Prop} {m : Nat} : ∀ {n : Nat} {w : Word}, Pow A (m + n) w ↔ Cat (Pow A m) (Pow A n) w
  | 0, w => cat_nil.symm
  | n + 1, w => by
    constructor
    · rintro ⟨u, v, rfl, h1, h2⟩
      obtain ⟨u1, u2, rfl, h3, h4⟩ := pow_split.mp h1
      exact ⟨u1, u2 ++ v, by rw [List.append_assoc], h3, u2, v, rfl, h4, h2⟩
    · rintro ⟨u, v, rfl, h1, v1, v2, rfl, h2, h3⟩
      exact ⟨u ++ v1, v2, by rw [List.append_assoc], pow_split.mpr ⟨u, v1, rfl, h1, h2⟩, h3⟩
def Star (A : Word → Prop) (w : Word) : Prop := ∃ n, Pow A n w
/-- two nodes at once: where the last turn stands, and where all turns lead -/
structure Turns (k : Nat) (Gc Gl : Word → Prop) (wt nb b c cur late c' : Nat) (N : List Edge) : Prop where
  le : c ≤ c'
  ltc : cur < c'
  lt : late < c'
  cb : c' ≤ c + nb
  eb : N.length ≤ nb
  src : ∀ e, e ∈ N → e.1 = b ∨ (c ≤ e.1 ∧ e.1 < c')
  tgt : ∀ e, e ∈ N → c ≤ e.2.2 ∧ e.2.2 < c'
  letr : ∀ e, e ∈ N → Wd k e.2.1 ∧ e.2.1.length ≤ 3
  one : ones N ≤ wt
  atc : c ≤ cur
  atl : c ≤ late
  ne : cur ≠ late
  no : ∀ e, e ∈ N → e.1 ≠ late
  snd : ∀ A : Nat → Word → Prop, ∃ A' : Nat → Word → Prop, (∀ x, x < c → A' x = A x) ∧ Clo A' N ∧ (∀ w, A' cur w → Cat (A b) Gc w) ∧ ∀ w, A' late w → Cat (A b) Gl w
  cmpc : ∀ E'' : List Edge, (∀ e, e ∈ N → e ∈ E'') → ∀ u v, Reach E'' b u → Gc v → Reach E'' cur (u ++ v)
  cmp : ∀ E'' : List Edge, (∀ e, e ∈ N → e ∈ E'') → ∀ u v, Reach E'' b u → Gl v → Reach E'' late (u ++ v)
section
variable {k wt nb b c late c' cur : Nat} {G Gc Gl : Word → Prop} {N : List Edge}
theorem Turns.congr {G1 G2 : Word → Prop} (W : Turns k Gc Gl wt nb b c cur late c' N) (e1 : ∀ w, Gc w ↔ G1 w) (e2 : ∀ w, Gl w ↔ G2 w) : Turns k G1 G2 wt nb b c cur late c' N := by
  have z1 : Gc = G1 := funext fun w => propext (e1 w)
  have z2 : Gl = G2 := funext fun w => propext (e2 w)
  rw [← z1, ← z2]
  exact W
theorem Turns.wired (W : Turns k Gc Gl wt nb b c cur late c' N) : Wired k Gl wt nb b c late c' N where
  le := W.le
  lt := W.lt
  cb := W.cb
  eb := W.eb
  src := W.src
  tgt := W.tgt
  letr := W.letr
  one := W.one
  at' := .inr W.atl
  snd := fun A => let ⟨A', h1, h2, _, h4⟩ := W.snd A; ⟨A', h1, h2, h4⟩
  cmp := W.cmp
/-- the hub and the end behind what was wired -/
theorem Turns.start (hb : b < c) (W : Wired k G wt nb b c late c' N) : Turns k G G wt (nb + 2) b c c' (c' + 1) (c' + 2) (N ++ ([(late, [], c')] ++ [(c', [], c' + 1)])) := by
  have h1 := W.le
  have h2 := W.lt
  have W2 := W.seq hb (Wired.epsE W.lt)
  have W3 := W2.seq hb (Wired.epsE (Nat.lt_succ_self c'))
  rw [List.append_assoc] at W3
  refine { le := by omega, ltc := by omega, lt := by omega, cb := by have := W.cb; omega, eb := W3.eb, src := W3.src, tgt := W3.tgt, letr := W3.letr, one := W3.one, atc := h1, atl := by omega, ne := by omega, no := fun e h => ?_, snd := fun A => ?_, cmpc := fun E'' he u v hr hv => ?_, cmp := fun E'' he u v hr hv => ?_ }
  · rcases List.mem_append.mp h with h | h
    · rcases W.src e h with z | z <;> omega
    · rcases List.mem_append.mp h with h | h
      · rw [List.mem_singleton.mp h]
        show late ≠ c' + 1
        omega
      · rw [List.mem_singleton.mp h]
        show c' ≠ c' + 1
        omega
  · obtain ⟨A1, e1, k1, g1⟩ := W.snd A
    refine ⟨setL (setL A1 c' (A1 late)) (c' + 1) (A1 late), fun x hx => ?_, ?_, fun w hw => ?_, fun w hw => ?_⟩
    · rw [setL_ne (by omega), setL_ne (by omega), e1 x hx]
    · refine Clo.append (k1.congr fun x hx => ⟨?_, ?_⟩) (Clo.append ?_ ?_)
      · have : x.1 < c' := by
          rcases W.src x hx with z | z
          · rw [z]; omega
          · exact z.2
        rw [setL_ne (by omega), setL_ne (by omega)]
      · have := (W.tgt x hx).2
        rw [setL_ne (by omega), setL_ne (by omega)]
      · intro e he
        rw [List.mem_singleton.mp he]
        refine ⟨fun _ w hw => ?_, fun a ha => by simp at ha⟩
        show setL (setL A1 c' (A1 late)) (c' + 1) (A1 late) c' w
        have hw : setL (setL A1 c' (A1 late)) (c' + 1) (A1 late) late w := hw
        rw [setL_ne (by omega), setL_ne (by omega)] at hw
        rw [setL_ne (by omega), setL_eq]
        exact hw
      · intro e he
        rw [List.mem_singleton.mp he]
        refine ⟨fun _ w hw => ?_, fun a ha => by simp at ha⟩
        show setL (setL A1 c' (A1 late)) (c' + 1) (A1 late) (c' + 1) w
        have hw : setL (setL A1 c' (A1 late)) (c' + 1) (A1 late) c' w := hw
        rw [setL_ne (by omega), setL_eq] at hw
        rw [setL_eq]
        exact hw
    · rw [setL_ne (by omega), setL_eq] at hw
      exact g1 w hw
    · rw [setL_eq] at hw
      exact g1 w hw
  · exact .eps (he _ (List.mem_append_right _ (List.mem_append_left _ (List.mem_singleton.mpr rfl)))) (W.cmp E'' (fun e h => he e (List.mem_append_left _ h)) u v hr hv)
  · exact .eps (he _ (List.mem_append_right _ (List.mem_append_right _ (List.mem_singleton.mpr rfl)))) (.eps (he _ (List.mem_append_right _ (List.mem_append_left _ (List.mem_singleton.mpr rfl)))) (W.cmp E'' (fun e h => he e (List.mem_append_left _ h)) u v hr hv))
/-- one more turn -/
theorem Turns.more {G2 : Word → Prop} {wt2 nb2 x c2 : Nat} {N2 : List Edge} (hb : b < c) (W : Turns k Gc Gl wt nb b c cur late c' N) (W2 : Wired k G2 wt2 nb2 cur c' x c2 N2) :
    Turns k (Cat Gc G2) (fun w => Gl w ∨ Cat Gc G2 w) (wt + wt2) (nb + (nb2 + 1)) b c x late c2 (N ++ (N2 ++ [(x, [], late)])) := by
  have h1 := W.le
  have h2 := W2.le
  have h3 := W.lt
  have h4 := W.ltc
  have h5 := W.atc
  have h6 := W.atl
  have h7 := W.ne
  have hx : x ≠ late := by
    rcases W2.at' with z | z <;> omega
  have hxc : c ≤ x := by
    rcases W2.at' with z | z <;> omega
  have hN2 : ∀ e, e ∈ N2 → e.1 ≠ late := fun e h => by
    rcases W2.src e h with z | z <;> omega
  refine { le := by omega, ltc := W2.lt, lt := by omega, cb := by have := W.cb; have := W2.cb; omega, eb := ?_, src := fun e h => ?_, tgt := fun e h => ?_, letr := fun e h => ?_, one := ?_, atc := hxc, atl := h6, ne := hx, no := fun e h => ?_, snd := fun A => ?_, cmpc := fun E'' he u v hr hv => ?_, cmp := fun E'' he u v hr hv => ?_ }
  · have := W.eb
    have := W2.eb
    rw [List.length_append, List.length_append]
    show N.length + (N2.length + 1) ≤ _
    omega
  · rcases List.mem_append.mp h with h | h
    · rcases W.src e h with z | z
      · exact .inl z
      · exact .inr ⟨z.1, by omega⟩
    · rcases List.mem_append.mp h with h | h
      · rcases W2.src e h with z | z
        · exact .inr ⟨by omega, by omega⟩
        · exact .inr ⟨by omega, z.2⟩
      · rw [List.mem_singleton.mp h]
        exact .inr ⟨hxc, W2.lt⟩
  · rcases List.mem_append.mp h with h | h
    · have := W.tgt e h
      omega
    · rcases List.mem_append.mp h with h | h
      · have := W2.tgt e h
        omega
      · rw [List.mem_singleton.mp h]
        exact ⟨h6, by show late < c2; omega⟩
  · rcases List.mem_append.mp h with h | h
    · exact W.letr e h
    · rcases List.mem_append.mp h with h | h
      · exact W2.letr e h
      · rw [List.mem_singleton.mp h]
        exact ⟨fun x hx => by simp at hx, Nat.zero_le _⟩
  · rw [ones_append, ones_append]
    have := W.one
    have := W2.one
    have : ones [(x, ([] : List Nat), late)] = 0 := rfl
    omega
  · rcases List.mem_append.mp h with h | h
    · exact W.no e h
    · rcases List.mem_append.mp h with h | h
      · exact hN2 e h
      · rw [List.mem_singleton.mp h]
        exact hx
  · obtain ⟨A1, e1, k1, gc, gl⟩ := W.snd A
    obtain ⟨A2, e2, k2, g2⟩ := W2.snd A1
    have gx : ∀ w, A2 x w → Cat (A b) (Cat Gc G2) w := fun w hw => by
      obtain ⟨u, v, rfl, hu, hv⟩ := g2 w hw
      obtain ⟨u1, u2, rfl, q1, q2⟩ := gc u hu
      exact ⟨u1, u2 ++ v, by rw [List.append_assoc], q1, u2, v, rfl, q2, hv⟩
    refine ⟨setL A2 late fun w => A2 late w ∨ A2 x w, fun y hy => ?_, ?_, fun w hw => ?_, fun w hw => ?_⟩
    · rw [setL_ne (by omega), e2 y (by omega), e1 y hy]
    · refine Clo.append ?_ (Clo.append ?_ ?_)
      · intro e he
        have hs := W.no e he
        have hsl : e.1 < c' := by
          rcases W.src e he with z | z
          · rw [z]; omega
          · exact z.2
        have ht := (W.tgt e he).2
        have q := k1 e he
        have up : ∀ w, A2 e.2.2 w → setL A2 late (fun w => A2 late w ∨ A2 x w) e.2.2 w := fun w hw => by
          by_cases z : e.2.2 = late
          · rw [z] at hw ⊢
            rw [setL_eq]
            exact .inl hw
          · rwa [setL_ne z]
        refine ⟨fun z w hw => ?_, fun a ha w hw => ?_⟩
        · rw [setL_ne hs, e2 _ hsl] at hw
          refine up w ?_
          rw [e2 _ ht]
          exact q.1 z w hw
        · rw [setL_ne hs, e2 _ hsl] at hw
          refine up (w ++ [a]) ?_
          rw [e2 _ ht]
          exact q.2 a ha w hw
      · exact k2.congr fun y hy => ⟨setL_ne (hN2 y hy), setL_ne (by have := (W2.tgt y hy).1; omega)⟩
      · intro e he
        rw [List.mem_singleton.mp he]
        refine ⟨fun _ w hw => ?_, fun a ha => by simp at ha⟩
        show setL A2 late (fun w => A2 late w ∨ A2 x w) late w
        have hw : setL A2 late (fun w => A2 late w ∨ A2 x w) x w := hw
        rw [setL_ne hx] at hw
        rw [setL_eq]
        exact .inr hw
    · rw [setL_ne hx] at hw
      exact gx w hw
    · rw [setL_eq] at hw
      rcases hw with hw | hw
      · rw [e2 late h3] at hw
        obtain ⟨u, v, rfl, hu, hv⟩ := gl w hw
        exact ⟨u, v, rfl, hu, .inl hv⟩
      · obtain ⟨u, v, rfl, hu, hv⟩ := gx w hw
        exact ⟨u, v, rfl, hu, .inr hv⟩
  · obtain ⟨v1, v2, rfl, q1, q2⟩ := hv
    rw [← List.append_assoc]
    exact W2.cmp E'' (fun e h => he e (List.mem_append_right _ (List.mem_append_left _ h))) _ _ (W.cmpc E'' (fun e h => he e (List.mem_append_left _ h)) u v1 hr q1) q2
  · rcases hv with hv | hv
    · exact W.cmp E'' (fun e h => he e (List.mem_append_left _ h)) u v hr hv
    · obtain ⟨v1, v2, rfl, q1, q2⟩ := hv
      refine .eps (he _ (List.mem_append_right _ (List.mem_append_right _ (List.mem_singleton.mpr rfl)))) ?_
      rw [← List.append_assoc]
      exact W2.cmp E'' (fun e h => he e (List.mem_append_right _ (List.mem_append_left _ h))) _ _ (W.cmpc E'' (fun e h => he e (List.mem_append_left _ h)) u v1 hr q1) q2
/-- without an end: back to the hub -/
theorem Wired.star {G2 : Word → Prop} {wt2 nb2 x c2 : Nat} {N2 : List Edge} (hb : b < c) (W : Wired k G wt nb b c late c' N) (W2 : Wired k G2 wt2 nb2 c' (c' + 2) x c2 N2) :
    Wired k (Cat G (Star G2)) (wt + wt2) (nb + 2 + (nb2 + 1)) b c (c' + 1) c2 ((N ++ ([(late, [], c')] ++ [(c', [], c' + 1)])) ++ (N2 ++ [(x, [], c')])) := by
  have T := Turns.start hb W
  have h1 := W.le
  have h2 := W2.le
  have h3 := W.lt
  have hxc : c ≤ x := by
    rcases W2.at' with z | z <;> omega
  refine { le := by omega, lt := by omega, cb := by have := W.cb; have := W2.cb; omega, eb := ?_, src := fun e h => ?_, tgt := fun e h => ?_, letr := fun e h => ?_, one := ?_, at' := .inr (by omega), snd := fun A => ?_, cmp := fun E'' he u v hr hv => ?_ }
  · have := T.eb
    have := W2.eb
    rw [List.length_append, List.length_append (as := N2)]
    show _ + (N2.length + 1) ≤ _
    omega
  · rcases List.mem_append.mp h with h | h
    · rcases T.src e h with z | z
      · exact .inl z
      · exact .inr ⟨z.1, by omega⟩
    · rcases List.mem_append.mp h with h | h
      · rcases W2.src e h with z | z
        · exact .inr ⟨by omega, by omega⟩
        · exact .inr ⟨by omega, z.2⟩
      · rw [List.mem_singleton.mp h]
        exact .inr ⟨hxc, W2.lt⟩
  · rcases List.mem_append.mp h with h | h
    · have := T.tgt e h
      omega
    · rcases List.mem_append.mp h with h | h
      · have := W2.tgt e h
        omega
      · rw [List.mem_singleton.mp h]
        exact ⟨h1, by show c' < c2; omega⟩
  · rcases List.mem_append.mp h with h | h
    · exact T.letr e h
    · rcases List.mem_append.mp h with h | h
      · exact W2.letr e h
      · rw [List.mem_singleton.mp h]
        exact ⟨fun x hx => by simp at hx, Nat.zero_le _⟩
  · rw [ones_append, ones_append N2]
    have := T.one
    have := W2.one
    have : ones [(x, ([] : List Nat), c')] = 0 := rfl
    omega
  · obtain ⟨A1, e1, k1, g1⟩ := W.snd A
    obtain ⟨A3, e3, k3, g3⟩ := W2.snd (setL (setL A1 c' (Cat (A1 late) (Star G2))) (c' + 1) (Cat (A1 late) (Star G2)))
    have ah : A3 c' = Cat (A1 late) (Star G2) := by
      rw [e3 c' (by omega), setL_ne (by omega), setL_eq]
    have al : A3 (c' + 1) = Cat (A1 late) (Star G2) := by
      rw [e3 (c' + 1) (by omega), setL_eq]
    have ao : ∀ y, y < c' → A3 y = A1 y := fun y hy => by
      rw [e3 y (by omega), setL_ne (by omega), setL_ne (by omega)]
    refine ⟨A3, fun y hy => ?_, ?_, fun w hw => ?_⟩
    · rw [ao y (by omega), e1 y hy]
    · refine Clo.append (Clo.append (k1.congr fun y hy => ⟨ao _ ?_, ao _ (W.tgt y hy).2⟩) (Clo.append ?_ ?_)) (Clo.append k3 ?_)
      · rcases W.src y hy with z | z
        · rw [z]; omega
        · exact z.2
      · intro e he
        rw [List.mem_singleton.mp he]
        refine ⟨fun _ w hw => ?_, fun a ha => by simp at ha⟩
        show A3 c' w
        have hw : A3 late w := hw
        rw [ao late h3] at hw
        rw [ah]
        exact ⟨w, [], by simp, hw, 0, rfl⟩
      · intro e he
        rw [List.mem_singleton.mp he]
        refine ⟨fun _ w hw => ?_, fun a ha => by simp at ha⟩
        show A3 (c' + 1) w
        have hw : A3 c' w := hw
        rw [al, ← ah]
        exact hw
      · intro e he
        rw [List.mem_singleton.mp he]
        refine ⟨fun _ w hw => ?_, fun a ha => by simp at ha⟩
        show A3 c' w
        have hw : A3 x w := hw
        obtain ⟨u, v, rfl, hu, hv⟩ := g3 w hw
        have hu : setL (setL A1 c' (Cat (A1 late) (Star G2))) (c' + 1) (Cat (A1 late) (Star G2)) c' u := hu
        rw [setL_ne (by omega), setL_eq] at hu
        obtain ⟨u1, u2, rfl, q1, n, q2⟩ := hu
        rw [ah]
        exact ⟨u1, u2 ++ v, by rw [List.append_assoc], q1, n + 1, u2, v, rfl, q2, hv⟩
    · rw [al] at hw
      obtain ⟨u, v, rfl, hu, hv⟩ := hw
      obtain ⟨u1, u2, rfl, q1, q2⟩ := g1 u hu
      exact ⟨u1, u2 ++ v, by rw [List.append_assoc], q1, u2, v, rfl, q2, hv⟩
  · obtain ⟨v1, v2, rfl, q1, n, q2⟩ := hv
    have r1 : Reach E'' c' (u ++ v1) := T.cmpc E'' (fun e h => he e (List.mem_append_left _ h)) u v1 hr q1
    have key : ∀ n v2, Pow G2 n v2 → Reach E'' c' (u ++ v1 ++ v2) := by
      intro n
      induction n with
      | zero =>
        intro v2 h
        have h : v2 = [] := h
        rw [h, List.append_nil]
        exact r1
      | succ n ih =>
        rintro v2 ⟨a, d, rfl, q3, q4⟩
        rw [← List.append_assoc]
        refine .eps (he _ (List.mem_append_right _ (List.mem_append_right _ (List.mem_singleton.mpr rfl)))) ?_
        exact W2.cmp E'' (fun e h => he e (List.mem_append_right _ (List.mem_append_left _ h))) _ _ (ih a q3) q4
    rw [← List.append_assoc]
    exact .eps (he _ (List.mem_append_left _ (List.mem_append_right _ (List.mem_append_right _ (List.mem_singleton.mpr rfl))))) (key n v2 q2)
end
end Own
namespace Own
open PySem PySem.Spec PyProof.Rows L2
/-! nets in the heap -/
def EdgeAt (K : PySem.W.Frag) (H : Hp) (a : Addr) (e : Edge) : Prop := SqT K H a [nV e.1, .str (tx e.2.1), nV e.2.2]
structure NetAt (K : PySem.W.Frag) (H : Hp) (a el : Addr) (c : Nat) (E : List Edge) : Prop where
  top : H a = some (.lst [nV c, .ref el])
  ne : el ≠ a
  ed : ∃ es : List Addr, H el = some (.lst (es.map V.ref)) ∧ es.length = E.length ∧ ∀ (i : Nat) (x : Addr) (e : Edge), es[i]? = some x → E[i]? = some e → EdgeAt K H x e
def But2 (a b : Addr) (H H' : Hp) : Prop := ∀ x o, x ≠ a → x ≠ b → H x = some o → H' x = some o
theorem But2.trans {a b : Addr} {H H1 H2 : Hp} (h : But2 a b H H1) (h' : But2 a b H1 H2) : But2 a b H H2 := fun x o h1 h2 e => h' x o h1 h2 (h x o h1 h2 e)
theorem But2.of {a b : Addr} {H H1 : Hp} (h : Same H H1) : But2 a b H H1 := fun x o _ _ e => h x o e
theorem But2.refl {a b : Addr} {H : Hp} : But2 a b H H := fun _ _ _ _ e => e
section
variable {K : PySem.W.Frag} {H H' : Hp} {a b x el : Addr} {xs ys zs : List V} {c : Nat} {E : List Edge}
theorem But2.tup (h : But2 a b H H') (ha : H a = some (.lst ys)) (hb : H b = some (.lst zs)) (q : SqT K H x xs) : SqT K H' x xs := by
  rcases q with (q | ⟨ob, q⟩) | q
  · exact .inl (.inl (h _ _ (ne_of q ha fun z => nomatch z) (ne_of q hb fun z => nomatch z) q))
  · exact .inl (.inr ⟨ob, h _ _ (ne_of q ha fun z => nomatch z) (ne_of q hb fun z => nomatch z) q⟩)
  · exact .inr q
theorem NetAt.tups (h : NetAt K H a el c E) (e : But2 a el H H') : ∀ x xs, SqT K H x xs → SqT K H' x xs := fun x xs q => by
  obtain ⟨es, h1, _, _⟩ := h.ed
  exact e.tup h.top h1 q
theorem NetAt.same (h : NetAt K H a el c E) (e : Same H H') : NetAt K H' a el c E := by
  obtain ⟨es, h1, h2, h3⟩ := h.ed
  exact ⟨e _ _ h.top, h.ne, es, e _ _ h1, h2, fun i x ed q1 q2 => Same.tup e (h3 i x ed q1 q2)⟩
theorem NetAt.len (h : NetAt K H a el c E) : ∃ es : List Addr, H el = some (.lst (es.map V.ref)) ∧ es.length = E.length := by
  obtain ⟨es, h1, h2, _⟩ := h.ed
  exact ⟨es, h1, h2⟩
/-- one more edge -/
theorem NetAt.app (h : NetAt K H a el c E) {es : List Addr} (hes : H el = some (.lst (es.map V.ref))) {tp : Addr} (np : H tp = none) (e : Edge) :
    NetAt K (upd (upd H tp (.tup [nV e.1, .str (tx e.2.1), nV e.2.2])) el (.lst (es.map V.ref ++ [.ref tp]))) a el c (E ++ [e]) ∧ But2 a el H (upd (upd H tp (.tup [nV e.1, .str (tx e.2.1), nV e.2.2])) el (.lst (es.map V.ref ++ [.ref tp]))) := by
  obtain ⟨es', h1, h2, h3⟩ := h.ed
  have e1 : es' = es := by
    rw [hes] at h1
    have z : es.map V.ref = es'.map V.ref := HO.lst.inj (Option.some.inj h1)
    exact ((List.map_inj_right (fun a b e => V.ref.inj e)).mp z).symm
  subst e1
  have s1 := same_new np (.tup [nV e.1, .str (tx e.2.1), nV e.2.2])
  have net : tp ≠ el := fun z => by
    rw [z, h1] at np
    cases np
  have bt : But2 a el H (upd (upd H tp (.tup [nV e.1, .str (tx e.2.1), nV e.2.2])) el (.lst (es'.map V.ref ++ [.ref tp]))) := fun x o hx1 hx2 q => by
    rw [upd_ne hx2]
    exact s1 _ _ q
  refine ⟨⟨?_, h.ne, es' ++ [tp], ?_, by rw [List.length_append, List.length_append, h2]; rfl, fun i x ed q1 q2 => ?_⟩, bt⟩
  · rw [upd_ne h.ne.symm]
    exact s1 _ _ h.top
  · rw [upd_same, List.map_append]
    rfl
  · by_cases hi : i < es'.length
    · rw [List.getElem?_append_left hi] at q1
      rw [List.getElem?_append_left (by omega)] at q2
      exact bt.tup h.top h1 (h3 i x ed q1 q2)
    · rw [List.getElem?_append_right (by omega)] at q1
      have hz : i - es'.length = 0 := by
        have := (List.getElem?_eq_some_iff.mp q1).1
        simp at this
        omega
      rw [hz] at q1
      obtain rfl : tp = x := by simpa using q1
      rw [List.getElem?_append_right (by omega)] at q2
      have hz2 : i - E.length = 0 := by omega
      rw [hz2] at q2
      obtain rfl : e = ed := by simpa using q2
      refine .inl (.inl ?_)
      rw [upd_ne net]
      exact upd_same
end
mutual
/-- how many nodes and edges at most -/
def Pat.nb : Pat → Nat
  | .non => 1
  | .emp => 1
  | .one _ => 1
  | .row ps => ps.nb
  | .any ps => 1 + ps.nb1
  | .again p lo hi => lo * p.nb + 2 + (match hi with | none => p.nb + 1 | some h => (h - lo) * (p.nb + 1))
  | .group p => p.nb
def Pats.nb : Pats → Nat
  | .nil => 0
  | .cons p ps => p.nb + ps.nb
def Pats.nb1 : Pats → Nat
  | .nil => 0
  | .cons p ps => p.nb + 1 + ps.nb1
end
theorem Pats.nb_toL : ∀ ps : Pats, ps.nb = (ps.toL.map Pat.nb).sum
  | .nil => rfl
  | .cons p ps => by rw [Pats.nb, Pats.toL, List.map_cons, List.sum_cons, Pats.nb_toL ps]
theorem Pats.nb1_toL : ∀ ps : Pats, ps.nb1 = (ps.toL.map fun p => p.nb + 1).sum
  | .nil => rfl
  | .cons p ps => by rw [Pats.nb1, Pats.toL, List.map_cons, List.sum_cons, Pats.nb1_toL ps]
section
variable {P : Program} {w : World} {K : PySem.W.Frag} {mg : Str → Option Value} {base : Heap}
abbrev s_law_node : Stmt := topS 58
theorem sc_law_node : FnScope ["net"] ["net"] (defScope s_law_node) := ⟨rfl, rfl, rfl, by decide +kernel, rfl, by decide +kernel, by decide +kernel⟩
def sp_law_node (K : PySem.W.Frag) : Sp := fun vs H Q _ => ∃ (a el : Addr) (c : Nat) (E : List Edge), vs = [.ref a] ∧ NetAt K H a el c E ∧ ∀ H', But2 a el H H' → NetAt K H' a el (c + 1) E → Q (nV c) H'
theorem ok_law_node {f : Addr} {fd : FuncData} (F : Fun K "_law_node" "_law_node" s_law_node f fd) (B : Bt mg) : FnOk P w K mg base CX0 1 f fd ["net"] (sp_law_node K) := by
  refine F.ok sc_law_node (fun vs H Q E h => ?_) (fun cdv A outer s0 H vs Q E hr h => ?_)
  · obtain ⟨a, el, c, E, rfl, _⟩ := h
    rfl
  obtain ⟨a, el, c, E, rfl, hN, q⟩ := h
  refine ⟨_, (pss_cons (ps_asg (pe_op op_add (p_ixl K (pv 0) pe_int) pe_int) (pg_sub (pv 0) pe_int set_list)) (pss_one (ps_ret (pe_op op_sub (p_ixl K (pv 0) pe_int) pe_int)))), ?_⟩
  refine ⟨_, rfl, a, _, _, _, rfl, rfl, SqL.of hN.top, at0, _, _, rfl, rfl, ?_⟩
  have ec : V.int (((c : Nat) : Int) + 1) = nV (c + 1) := congrArg V.int (by omega)
  show gSub (tVar 0) (tC (V.int 0)) L2.rSetL (V.int (((c : Nat) : Int) + 1)) _ _ _
  rw [ec]
  refine ⟨_, rfl, a, _, _, _, rfl, rfl, hN.top, rfl, ?_⟩
  have h1 : (upd H a (.lst [nV (c + 1), .ref el])) a = some (.lst [nV (c + 1), .ref el]) := upd_same
  have bt : But2 a el H (upd H a (.lst [nV (c + 1), .ref el])) := fun x o hx1 _ e => by
    rw [upd_ne hx1]
    exact e
  refine ⟨_, rfl, a, _, _, _, rfl, rfl, SqL.of h1, at0, _, _, rfl, rfl, ?_⟩
  have e2 : V.int (((c + 1 : Nat) : Int) - 1) = nV c := congrArg V.int (by omega)
  show Q (V.int (((c + 1 : Nat) : Int) - 1)) _
  rw [e2]
  obtain ⟨es, k1, k2, k3⟩ := hN.ed
  exact q _ bt ⟨h1, hN.ne, es, by rw [upd_ne hN.ne]; exact k1, k2, fun i x ed q1 q2 => bt.tup hN.top k1 (k3 i x ed q1 q2)⟩
end
end Own
namespace Own
open PySem PySem.Spec PyProof.Rows L2
section
variable {P : Program} {w : World} {K : PySem.W.Frag} {mg : Str → Option Value} {base : Heap}
abbrev s_law_wire_again : Stmt := topS 60
theorem sc_law_wire_again : FnScope ["net", "pattern", "begin", "word", "part", "low", "high", "way", "turn", "hub", "late"] ["net", "pattern", "begin"] (defScope s_law_wire_again) := ⟨rfl, rfl, rfl, by decide +kernel, rfl, by decide +kernel, by decide +kernel⟩
def sp_law_wire (K : PySem.W.Frag) (m : Nat) : Sp := fun vs H Q _ => ∃ (a el x : Addr) (c : Nat) (E : List Edge) (p : Pat) (b k : Nat), vs = [.ref a, .ref x, nV b] ∧ NetAt K H a el c E ∧ PatAt K H p x ∧ p.Ok k ∧ k ≤ 3 ∧ p.depth < m ∧ b < c ∧ E.length + p.nb ≤ 100000 ∧
  ∀ (late c' : Nat) (N : List Edge) (H' : Hp), Wired k (L p) p.wt p.nb b c late c' N → But2 a el H H' → NetAt K H' a el c' (E ++ N) → Q (nV late) H'
def sp_law_wire_again (K : PySem.W.Frag) (m : Nat) : Sp := fun vs H Q _ => ∃ (a el x : Addr) (c : Nat) (E : List Edge) (p : Pat) (lo : Nat) (hi : Option Nat) (b k : Nat), vs = [.ref a, .ref x, nV b] ∧ NetAt K H a el c E ∧ PatAt K H (.again p lo hi) x ∧ (Pat.again p lo hi).Ok k ∧ k ≤ 3 ∧ p.depth < m ∧ b < c ∧ E.length + (Pat.again p lo hi).nb ≤ 100000 ∧
  ∀ (late c' : Nat) (N : List Edge) (H' : Hp), Wired k (L (.again p lo hi)) (Pat.again p lo hi).wt (Pat.again p lo hi).nb b c late c' N → But2 a el H H' → NetAt K H' a el c' (E ++ N) → Q (nV late) H'
theorem ok_law_wire_again {f : Addr} {fd : FuncData} {m n : Nat} (F : Fun K "_law_wire_again" "_law_wire_again" s_law_wire_again f fd) (B : Bt mg) (hn : 1 ≤ n) (C_law_node : Got P w K mg base CX0 1 "_law_node" ["net"] (sp_law_node K)) (C_law_wire : Got P w K mg base CX0 n "_law_wire" ["net", "pattern", "begin"] (sp_law_wire K m)) :
    FnOk P w K mg base CX0 (n + 1) f fd ["net", "pattern", "begin"] (sp_law_wire_again K m) := by
  refine F.ok sc_law_wire_again (fun vs H Q E h => ?_) (fun cdv A outer s0 H vs Q E hr h => ?_)
  · obtain ⟨a, el, x, c, E, p, lo, hi, b, k, rfl, _⟩ := h
    rfl
  obtain ⟨a, el, x, c, E, p, lo, hi, b0, k, rfl, hN, pt, ok, hk, dp, hb, hE, q⟩ := h
  have hr1 : Room 1 _ := hr.mono hn
  have two : ∀ n, n ≤ 10 → n ≤ sizeLine := fun n h => Nat.le_of_lt (small1000 (by omega))
  refine ⟨_, (pss_cons (ps_asg (pv 1) (g_tup K 5 (pgs_cons (pg_name (i := 3) sc_law_wire_again.nd rfl (Or.inl rfl)) (pgs_cons (pg_name (i := 4) sc_law_wire_again.nd rfl (Or.inl rfl)) (pgs_cons (pg_name (i := 5) sc_law_wire_again.nd rfl (Or.inl rfl)) (pgs_cons (pg_name (i := 6) sc_law_wire_again.nd rfl (Or.inl rfl)) (pgs_cons (pg_name (i := 7) sc_law_wire_again.nd rfl (Or.inl rfl)) pgs_nil))))))) (pss_cons (ps_for PassesOwn.never rfl (pi_range1 (by rfl) B.range (pa_cons (pv 5) pa_nil)) (pg_name (i := 8) sc_law_wire_again.nd rfl (Or.inl rfl)) (pss_one (ps_set (i := 2) sc_law_wire_again.nd rfl (Or.inl rfl) (C_law_wire.call hr (by rfl) (pa_cons (pv 0) (pa_cons (pv 4) (pa_cons (pv 2) pa_nil))))))) (pss_cons (ps_par (i := 9) (j := 10) rfl sc_law_wire_again.nd rfl rfl (by decide) rfl rfl (pa_cons (C_law_node.call hr1 (by rfl) (pa_cons (pv 0) pa_nil)) (pa_cons (C_law_node.call hr1 (by rfl) (pa_cons (pv 0) pa_nil)) pa_nil)) (by rfl)) (pss_cons (ps_expr (p_app K (p_ixl K (pv 0) pe_int) (pa_cons (pe_tup (pa_cons (pv 2) (pa_cons pe_str (pa_cons (pv 9) pa_nil)))) pa_nil))) (pss_cons (ps_expr (p_app K (p_ixl K (pv 0) pe_int) (pa_cons (pe_tup (pa_cons (pv 9) (pa_cons pe_str (pa_cons (pv 10) pa_nil)))) pa_nil))) (pss_cons (ps_if (pt_cmpR op_isN (pv 6) pe_non (nomark _)) (pss_cons (ps_expr (p_app K (p_ixl K (pv 0) pe_int) (pa_cons (pe_tup (pa_cons (C_law_wire.call hr (by rfl) (pa_cons (pv 0) (pa_cons (pv 4) (pa_cons (pv 9) pa_nil)))) (pa_cons pe_str (pa_cons (pv 9) pa_nil)))) pa_nil))) (pss_one (ps_ret (pv 10)))) pss_nil) (pss_cons (ps_for PassesOwn.never rfl (pi_range1 (by rfl) B.range (pa_cons (pe_op op_sub (pv 6) (pv 5)) pa_nil)) (pg_name (i := 8) sc_law_wire_again.nd rfl (Or.inl rfl)) (pss_cons (ps_set (i := 9) sc_law_wire_again.nd rfl (Or.inl rfl) (C_law_wire.call hr (by rfl) (pa_cons (pv 0) (pa_cons (pv 4) (pa_cons (pv 9) pa_nil))))) (pss_one (ps_expr (p_app K (p_ixl K (pv 0) pe_int) (pa_cons (pe_tup (pa_cons (pv 9) (pa_cons pe_str (pa_cons (pv 10) pa_nil)))) pa_nil)))))) (pss_one (ps_ret (pv 10)))))))))), ?_⟩
  rw [empty_eq]
  unfold PatAt at pt
  obtain ⟨y, way, hsq, pb⟩ := pt
  simp only [Pat.Ok] at ok
  obtain ⟨okp, hlo, hhi⟩ := ok
  refine ⟨_, rfl, x, _, rfl, hsq, rfl, _, _, rfl, _, _, rfl, _, _, rfl, _, _, rfl, _, _, rfl, rfl, ?_⟩
  have hnb : lo * p.nb ≤ (Pat.again p lo hi).nb := by simp only [Pat.nb]; omega
  have pk : ∀ {H1 : Hp}, But2 a el H H1 → PatAt K H1 p y := fun h => pb.mono (hN.tups h)
  refine ⟨_, rfl, _, rfl, by omega, by omega, for_range (lo := 0) (n := ((lo : Nat) : Int).toNat) (fun i σ H1 => ∃ (cur ci : Nat) (N : List Edge) (v8 : Option V), i ≤ lo ∧ σ = [some (.ref a), some (.ref x), some (nV cur), some (.str "again"), some (.ref y), some (nV lo), some (Word.ofHi hi), some (.str way), v8, none, none] ∧
      But2 a el H H1 ∧ NetAt K H1 a el ci (E ++ N) ∧ Wired k (Pow (L p) i) (i * p.wt) (i * p.nb) b0 c cur ci N)
    ⟨b0, c, [], none, Nat.zero_le _, rfl, But2.refl, by rw [List.append_nil]; exact hN, (Wired.refl hb).weak (Nat.zero_le _) (Nat.zero_le _)⟩ ?_ ?_⟩
  · rintro i σ H1 hi' ⟨cur, ci, N, v8, _, rfl, b1, N1, W⟩
    rw [Int.toNat_natCast] at hi'
    have hNl := W.eb
    have hm : (i + 1) * p.nb ≤ lo * p.nb := Nat.mul_le_mul_right _ hi'
    rw [Nat.succ_mul] at hm
    refine ⟨_, rfl, _, rfl, _, rfl, a, el, y, ci, E ++ N, p, cur, k, rfl, N1, pk b1, okp, hk, dp, W.lt, by rw [List.length_append]; omega, fun l c2 N2 H2 W2 b2 N3 => ?_⟩
    rw [List.append_assoc] at N3
    exact ⟨l, c2, N ++ N2, _, hi', rfl, b1.trans b2, N3, (W.seq hb W2).weak (by rw [Nat.succ_mul]; exact Nat.le_refl _) (by rw [Nat.succ_mul]; exact Nat.le_refl _)⟩
  rintro σ H1 ⟨cur, ci, N, v8, _, rfl, b1, N1, W⟩
  rw [Int.toNat_natCast] at W
  have hNl := W.eb
  refine ⟨_, rfl, a, el, ci, _, rfl, N1, fun H2 b2 N2 => ⟨_, rfl, a, el, ci + 1, _, rfl, N2, fun H3 b3 N3 => ⟨_, _, rfl, ?_⟩⟩⟩
  have sz : ∀ {es : List Addr} {M : List Edge}, es.length = M.length → M.length ≤ 300000 → (es.map V.ref).length < sizeLine := fun h1 h2 => by
    rw [List.length_map, h1, sizeLine_eq]
    omega
  obtain ⟨es, he, hel⟩ := N3.len
  refine ⟨_, rfl, a, _, _, _, rfl, rfl, SqL.of N3.top, at1, .inl ⟨rfl, _, SqL.of he⟩, _, rfl, _, rfl, two 3 (by decide), fun tp ntp => ?_⟩
  refine ⟨el, _, _, rfl, rfl, same_new ntp _ _ _ he, sz hel (by rw [List.length_append]; omega), ?_⟩
  obtain ⟨N4, b4⟩ := N3.app he ntp (cur, [], ci)
  generalize upd (upd H3 tp (HO.tup [nV cur, V.str (tx []), nV ci])) el (HO.lst (es.map V.ref ++ [.ref tp])) = H4 at *
  obtain ⟨es4, he4, hel4⟩ := N4.len
  refine ⟨_, rfl, a, _, _, _, rfl, rfl, SqL.of N4.top, at1, .inl ⟨rfl, _, SqL.of he4⟩, _, rfl, _, rfl, two 3 (by decide), fun tp5 ntp5 => ?_⟩
  refine ⟨el, _, _, rfl, rfl, same_new ntp5 _ _ _ he4, sz hel4 (by rw [List.length_append, List.length_append]; show _ + 1 ≤ _; omega), ?_⟩
  obtain ⟨N5, b5⟩ := N4.app he4 ntp5 (ci, [], ci + 1)
  generalize upd (upd H4 tp5 (HO.tup [nV ci, V.str (tx []), nV (ci + 1)])) el (HO.lst (es4.map V.ref ++ [.ref tp5])) = H5 at *
  have bH5 : But2 a el H H5 := (((b1.trans b2).trans b3).trans b4).trans b5
  rw [List.append_assoc, List.append_assoc] at N5
  refine ⟨_, rfl, rfl, _, rfl, ?_⟩
  cases hi with
  | none =>
    have hnbE : (Pat.again p lo none).nb = lo * p.nb + 2 + (p.nb + 1) := by simp only [Pat.nb]
    rw [hnbE] at hE
    obtain ⟨es5, he5, hel5⟩ := N5.len
    refine iteT ⟨_, rfl, a, _, _, _, rfl, rfl, SqL.of N5.top, at1, .inl ⟨rfl, _, SqL.of he5⟩, _, rfl, _, rfl, _, rfl, a, el, y, ci + 2, _, p, ci, k, rfl, N5, pk bH5, okp, hk, dp, by omega, ?_, fun l c2 N2 H6 W2 b6 N6 => ?_⟩
    · simp only [List.length_append, List.length_cons, List.length_nil]
      omega
    refine ⟨_, rfl, two 3 (by decide), fun tp7 ntp7 => ?_⟩
    obtain ⟨es6, he6, hel6⟩ := N6.len
    have hN2l := W2.eb
    refine ⟨el, _, _, rfl, rfl, same_new ntp7 _ _ _ he6, sz hel6 (by simp only [List.length_append, List.length_cons, List.length_nil]; omega), ?_⟩
    obtain ⟨N7, b7⟩ := N6.app he6 ntp7 (l, [], ci)
    refine ⟨_, rfl, q (ci + 1) c2 ((N ++ ([(cur, [], ci)] ++ [(ci, [], ci + 1)])) ++ (N2 ++ [(l, [], ci)])) _ ?_ ((bH5.trans b6).trans b7) ?_⟩
    · have W := W.star hb W2
      refine (W.congr fun w => ?_).weak ?_ ?_
      · rw [L]
        constructor
        · rintro ⟨u, v, rfl, h1, n, h2⟩
          exact ⟨lo + n, ⟨by omega, fun h e => nomatch e⟩, pow_split.mpr ⟨u, v, rfl, h1, h2⟩⟩
        · rintro ⟨n, ⟨h1, _⟩, h2⟩
          obtain ⟨u, v, rfl, h3, h4⟩ := pow_split.mp (show Pow (L p) (lo + (n - lo)) w by rw [show lo + (n - lo) = n by omega]; exact h2)
          exact ⟨u, v, rfl, h3, n - lo, h4⟩
      · simp only [Pat.wt]
        rw [Nat.mul_add, Nat.mul_comm p.wt lo]
        omega
      · rw [hnbE]
        exact Nat.le_refl _
    · have e : E ++ ((N ++ ([(cur, [], ci)] ++ [(ci, [], ci + 1)])) ++ (N2 ++ [(l, [], ci)])) = E ++ (N ++ ([(cur, [], ci)] ++ [(ci, [], ci + 1)])) ++ N2 ++ [(l, [], ci)] := by simp only [List.append_assoc]
      rw [e]
      exact N7
  | some h =>
    obtain ⟨hh1, hh2, hh3⟩ := hhi h rfl
    have hnbE : (Pat.again p lo (some h)).nb = lo * p.nb + 2 + (h - lo) * (p.nb + 1) := by simp only [Pat.nb]
    rw [hnbE] at hE
    have T0 := Turns.start hb W
    refine iteF ?_
    have ed : V.int (((h : Nat) : Int) - ((lo : Nat) : Int)) = V.int ((h - lo : Nat) : Int) := congrArg V.int (by omega)
    refine ⟨_, rfl, _, rfl, _, _, rfl, rfl, ((h - lo : Nat) : Int), congrArg (fun z => [z]) ed, by omega, by omega, for_range (lo := 0) (n := ((h - lo : Nat) : Int).toNat) (fun i σ H6 => ∃ (cu c6 : Nat) (N6 : List Edge) (v8 : Option V), i ≤ h - lo ∧ σ = [some (.ref a), some (.ref x), some (nV cur), some (.str "again"), some (.ref y), some (nV lo), some (nV h), some (.str way), v8, some (nV cu), some (nV (ci + 1))] ∧
        But2 a el H H6 ∧ NetAt K H6 a el c6 (E ++ N6) ∧ Turns k (Pow (L p) (lo + i)) (fun w => ∃ n, lo ≤ n ∧ n ≤ lo + i ∧ Pow (L p) n w) ((lo + i) * p.wt) (lo * p.nb + 2 + i * (p.nb + 1)) b0 c cu (ci + 1) c6 N6)
      ⟨ci, ci + 2, _, v8, Nat.zero_le _, rfl, bH5, N5, ?_⟩ ?_ ?_⟩
    · have T1 := T0.congr (G1 := Pow (L p) (lo + 0)) (G2 := fun w => ∃ n, lo ≤ n ∧ n ≤ lo + 0 ∧ Pow (L p) n w) (fun w => Iff.rfl) fun w => ⟨fun z => ⟨lo, Nat.le_refl _, Nat.le_refl _, z⟩, fun ⟨n, h1, h2, h3⟩ => by
        have : n = lo := by omega
        rw [← this]
        exact h3⟩
      rw [Nat.zero_mul]
      exact T1
    · rintro i σ H6 hi' ⟨cu, c6, N6, v8, _, rfl, b6, N6', T⟩
      rw [Int.toNat_natCast] at hi'
      have hTl := T.eb
      have hm : (i + 1) * (p.nb + 1) ≤ (h - lo) * (p.nb + 1) := Nat.mul_le_mul_right _ hi'
      rw [Nat.succ_mul] at hm
      refine ⟨_, rfl, _, rfl, _, rfl, a, el, y, c6, E ++ N6, p, cu, k, rfl, N6', pk b6, okp, hk, dp, T.ltc, by rw [List.length_append]; omega, fun l c2 N2 H7 W2 b7 N7 => ?_⟩
      obtain ⟨es7, he7, hel7⟩ := N7.len
      have hN2l := W2.eb
      refine ⟨_, rfl, a, _, _, _, rfl, rfl, SqL.of N7.top, at1, .inl ⟨rfl, _, SqL.of he7⟩, _, rfl, _, rfl, two 3 (by decide), fun tp8 ntp8 => ?_⟩
      refine ⟨el, _, _, rfl, rfl, same_new ntp8 _ _ _ he7, sz hel7 (by simp only [List.length_append]; omega), ?_⟩
      obtain ⟨N8, b8⟩ := N7.app he7 ntp8 (l, [], ci + 1)
      rw [List.append_assoc, List.append_assoc] at N8
      refine ⟨l, c2, N6 ++ (N2 ++ [(l, [], ci + 1)]), _, hi', rfl, (b6.trans b7).trans b8, N8, ?_⟩
      have T2 := (T.more hb W2).congr (G1 := Pow (L p) (lo + (i + 1))) (G2 := fun w => ∃ n, lo ≤ n ∧ n ≤ lo + (i + 1) ∧ Pow (L p) n w) (fun w => Iff.rfl) fun w => by
        constructor
        · rintro (⟨n, h1, h2, h3⟩ | h3)
          · exact ⟨n, h1, by omega, h3⟩
          · exact ⟨lo + i + 1, by omega, by omega, h3⟩
        · rintro ⟨n, h1, h2, h3⟩
          by_cases z : n ≤ lo + i
          · exact .inl ⟨n, h1, z, h3⟩
          · have e : n = (lo + i) + 1 := by omega
            rw [e] at h3
            exact .inr h3
      have e1 : (lo + i) * p.wt + p.wt = (lo + (i + 1)) * p.wt := by
        rw [← Nat.succ_mul]
        rfl
      have e2 : lo * p.nb + 2 + i * (p.nb + 1) + (p.nb + 1) = lo * p.nb + 2 + (i + 1) * (p.nb + 1) := by
        rw [Nat.succ_mul i]
        omega
      rw [e1, e2] at T2
      exact T2
    · rintro σ H6 ⟨cu, c6, N6, v8, _, rfl, b6, N6', T⟩
      rw [Int.toNat_natCast] at T
      refine ⟨_, rfl, q (ci + 1) c6 N6 H6 ?_ b6 N6'⟩
      refine (T.wired.congr fun w => ?_).weak ?_ ?_
      · rw [L]
        constructor
        · rintro ⟨n, h1, h2, h3⟩
          exact ⟨n, ⟨h1, fun h' e => by obtain rfl := Option.some.inj e; omega⟩, h3⟩
        · rintro ⟨n, ⟨h1, h2⟩, h3⟩
          have := h2 h rfl
          exact ⟨n, h1, by omega, h3⟩
      · simp only [Pat.wt]
        rw [show lo + (h - lo) = h by omega, Nat.mul_comm]
        exact Nat.le_refl _
      · rw [hnbE]
        exact Nat.le_refl _
end
end Own
namespace Own
open PySem PySem.Spec PyProof.Rows L2
theorem LRow_nil {w : Word} : LRow .nil w ↔ w = [] := by
  unfold LRow
  exact Iff.rfl
theorem LRow_cons {p : Pat} {ps : Pats} {w : Word} : LRow (.cons p ps) w ↔ ∃ u v, w = u ++ v ∧ L p u ∧ LRow ps v := by
  rw [LRow]
theorem row_snoc {p : Pat} : ∀ (l : List Pat) (w : Word), Cat (LRow (Pats.ofL l)) (L p) w ↔ LRow (Pats.ofL (l ++ [p])) w
  | [], w => by
    show Cat (LRow .nil) (L p) w ↔ LRow (.cons p .nil) w
    rw [LRow_cons]
    constructor
    · rintro ⟨u, v, rfl, h1, h2⟩
      rw [LRow_nil] at h1
      subst h1
      exact ⟨v, [], by simp, h2, LRow_nil.mpr rfl⟩
    · rintro ⟨u, v, rfl, h1, h2⟩
      rw [LRow_nil] at h2
      subst h2
      exact ⟨[], u, by simp, LRow_nil.mpr rfl, h1⟩
  | q :: l, w => by
    show Cat (LRow (.cons q (Pats.ofL l))) (L p) w ↔ LRow (.cons q (Pats.ofL (l ++ [p]))) w
    rw [LRow_cons]
    constructor
    · rintro ⟨u, v, rfl, h1, h2⟩
      obtain ⟨u1, u2, rfl, h3, h4⟩ := LRow_cons.mp h1
      exact ⟨u1, u2 ++ v, by rw [List.append_assoc], h3, (row_snoc l _).mp ⟨u2, v, rfl, h4, h2⟩⟩
    · rintro ⟨u, v, rfl, h1, h2⟩
      obtain ⟨v1, v2, rfl, h3, h4⟩ := (row_snoc l _).mpr h2
      exact ⟨u ++ v1, v2, by rw [List.append_assoc], LRow_cons.mpr ⟨u, v1, rfl, h1, h3⟩, h4⟩
theorem any_snoc {p : Pat} : ∀ (l : List Pat) (w : Word), (LAny (Pats.ofL l) w ∨ L p w) ↔ LAny (Pats.ofL (l ++ [p])) w
  | [], w => by
    simp only [List.nil_append, Pats.ofL, LAny]
    constructor
    · rintro (h | h)
      · exact h.elim
      · exact .inl h
    · rintro (h | h)
      · exact .inr h
      · exact h.elim
  | q :: l, w => by
    simp only [List.cons_append, Pats.ofL, LAny]
    rw [← any_snoc l w]
    constructor
    · rintro ((h | h) | h)
      · exact .inl h
      · exact .inr (.inl h)
      · exact .inr (.inr h)
    · rintro (h | h | h)
      · exact .inl (.inl h)
      · exact .inl (.inr h)
      · exact .inr h
theorem sum_take_succ {α : Type} {l : List α} {f : α → Nat} {i : Nat} {x : α} (e : l[i]? = some x) : ((l.take (i + 1)).map f).sum = ((l.take i).map f).sum + f x := by
  rw [List.take_add_one, e, List.map_append, List.sum_append]
  simp
theorem sum_take_le {α : Type} (l : List α) (f : α → Nat) (i : Nat) : ((l.take i).map f).sum ≤ (l.map f).sum := by
  conv => rhs; rw [← List.take_append_drop i l, List.map_append, List.sum_append]
  omega
section
variable {P : Program} {w : World} {K : PySem.W.Frag} {mg : Str → Option Value} {base : Heap}
abbrev s_law_wire : Stmt := topS 59
theorem sc_law_wire : FnScope ["net", "pattern", "begin", "word", "part", "late"] ["net", "pattern", "begin"] (defScope s_law_wire) := ⟨rfl, rfl, rfl, by decide +kernel, rfl, by decide +kernel, by decide +kernel⟩
theorem ok_law_wire1 {f : Addr} {fd : FuncData} {m n : Nat} (F : Fun K "_law_wire" "_law_wire" s_law_wire f fd) (B : Bt mg) (hn : 1 ≤ n) (C_law_node : Got P w K mg base CX0 1 "_law_node" ["net"] (sp_law_node K)) (C_law_wire : Got P w K mg base CX0 n "_law_wire" ["net", "pattern", "begin"] (sp_law_wire K m))
    (C_law_wire_again : Got P w K mg base CX0 (n + 1) "_law_wire_again" ["net", "pattern", "begin"] (sp_law_wire_again K m)) :
    FnOk P w K mg base CX0 (n + 1 + 1) f fd ["net", "pattern", "begin"] (sp_law_wire K (m + 1)) := by
  refine F.ok sc_law_wire (fun vs H Q E h => ?_) (fun cdv A outer s0 H vs Q E hr h => ?_)
  · obtain ⟨a, el, x, c, E, p, b, k, rfl, _⟩ := h
    rfl
  obtain ⟨a, el, x, c, E, p, b, k, rfl, hN, pt, ok, hk, dp, hb, hE, q⟩ := h
  have hr1 : Room 1 _ := hr.mono (by omega)
  have hr0 : Room n _ := hr.mono (by omega)
  have two : ∀ n, n ≤ 10 → n ≤ sizeLine := fun n h => Nat.le_of_lt (small1000 (by omega))
  have sz : ∀ {es : List Addr} {M : List Edge}, es.length = M.length → M.length ≤ 300000 → (es.map V.ref).length < sizeLine := fun h1 h2 => by
    rw [List.length_map, h1, sizeLine_eq]
    omega
  refine ⟨_, (pss_cons (ps_set (i := 3) sc_law_wire.nd rfl (Or.inl rfl) (p_ixt K (pv 1) pe_int)) (pss_cons (ps_if (pt_cmpR op_eq (pv 3) pe_str (nomark _)) (pss_cons (ps_for PassesOwn.never rfl (p_tup K (pe_slice sl_tup (pv 1) (po_some pe_int) po_none)) (pg_name (i := 4) sc_law_wire.nd rfl (Or.inl rfl)) (pss_one (ps_set (i := 2) sc_law_wire.nd rfl (Or.inl rfl) (C_law_wire.call hr0 (by rfl) (pa_cons (pv 0) (pa_cons (pv 4) (pa_cons (pv 2) pa_nil))))))) (pss_one (ps_ret (pv 2)))) pss_nil) (pss_cons (ps_if (pt_cmpR op_eq (pv 3) pe_str (nomark _)) (pss_one (ps_ret (C_law_wire.call hr0 (by rfl) (pa_cons (pv 0) (pa_cons (p_ixt K (pv 1) pe_int) (pa_cons (pv 2) pa_nil)))))) pss_nil) (pss_cons (ps_if (pt_cmpR op_eq (pv 3) pe_str (nomark _)) (pss_one (ps_ret (C_law_wire_again.call hr (by rfl) (pa_cons (pv 0) (pa_cons (pv 1) (pa_cons (pv 2) pa_nil)))))) pss_nil) (pss_cons (ps_set (i := 5) sc_law_wire.nd rfl (Or.inl rfl) (C_law_node.call hr1 (by rfl) (pa_cons (pv 0) pa_nil))) (pss_cons (ps_if (t_in K (pv 3) (pe_tup (pa_cons pe_str (pa_cons pe_str pa_nil)))) (pss_one (ps_expr (p_app K (p_ixl K (pv 0) pe_int) (pa_cons (pe_tup (pa_cons (pv 2) (pa_cons (pe_ifExp (pt_cmpR op_eq (pv 3) pe_str (nomark _)) pe_str (p_ixt K (pv 1) pe_int)) (pa_cons (pv 5) pa_nil)))) pa_nil)))) pss_nil) (pss_cons (ps_if (pt_cmpR op_eq (pv 3) pe_str (nomark _)) (pss_one (ps_for PassesOwn.never rfl (p_tup K (pe_slice sl_tup (pv 1) (po_some pe_int) po_none)) (pg_name (i := 4) sc_law_wire.nd rfl (Or.inl rfl)) (pss_one (ps_expr (p_app K (p_ixl K (pv 0) pe_int) (pa_cons (pe_tup (pa_cons (C_law_wire.call hr0 (by rfl) (pa_cons (pv 0) (pa_cons (pv 4) (pa_cons (pv 2) pa_nil)))) (pa_cons pe_str (pa_cons (pv 5) pa_nil)))) pa_nil)))))) pss_nil) (pss_one (ps_ret (pv 5)))))))))), ?_⟩
  rw [empty_eq]
  obtain ⟨tl, hsq⟩ := pt.head
  refine ⟨_, rfl, x, _, _, _, rfl, rfl, hsq, at0, ?_⟩
  obtain ⟨hk4, hko⟩ := Pat.ok_kids ok
  refine ⟨_, rfl, rfl, _, rfl, ?_⟩
  generalize hnm : p.nm = nm
  rw [hnm] at hsq
  cases p with
  | row ps =>
    obtain rfl : ("row" : Str) = nm := hnm
    unfold PatAt at pt
    obtain ⟨bs, hsq2, pbs⟩ := pt
    obtain ⟨hbl, hpt⟩ := (patsAt_iff _ _).mp pbs
    simp only [Pat.depth] at dp
    simp only [Pat.nb] at hE
    rw [Pats.nb_toL] at hE
    refine yes_str ?_
    refine ⟨_, rfl, 1, rfl, x, _, rfl, hsq2, cut_ne _ _, fun p1 np1 => ?_⟩
    rw [cut_tail]
    have s1 := same_new np1 (.tup (bs.map V.ref))
    have N1 := hN.same s1
    refine ⟨p1, rfl, ⟨_, SqT.new⟩, for_tup (K := K) (a := p1) (xs := bs.map V.ref) (fun i σ H2 => ∃ (cur ci : Nat) (N : List Edge) (v4 : Option V), σ = [some (.ref a), some (.ref x), some (nV cur), some (.str "row"), v4, none] ∧ But2 a el (upd H p1 (.tup (bs.map V.ref))) H2 ∧ NetAt K H2 a el ci (E ++ N) ∧
        Wired k (LRow (Pats.ofL (ps.toL.take i))) (((ps.toL.take i).map Pat.wt).sum) (((ps.toL.take i).map Pat.nb).sum) b c cur ci N)
      ⟨b, c, [], none, rfl, But2.refl, by rw [List.append_nil]; exact N1, (Wired.refl hb).congr fun w => by show w = [] ↔ LRow .nil w; unfold LRow; exact Iff.rfl⟩ (fun i σ H2 _ h => ?_) ?_ ?_⟩
    · obtain ⟨_, _, _, _, _, b2, _⟩ := h
      exact N1.tups b2 _ _ SqT.new
    · rintro i v σ H2 hx ⟨cur, ci, N, v4, rfl, b2, N2, W⟩
      rw [List.getElem?_map] at hx
      cases e : bs[i]? with
      | none =>
        rw [e] at hx
        cases hx
      | some y =>
      rw [e] at hx
      obtain rfl : V.ref y = v := Option.some.inj hx
      have hxl : i < ps.toL.length := by
        have := (List.getElem?_eq_some_iff.mp e).1
        omega
      have ek : ps.toL[i]? = some ps.toL[i] := List.getElem?_eq_getElem hxl
      have hmem := List.getElem_mem hxl
      have hdep := (Pats.depth_toL (m := ps.depth) ps).mp (Nat.le_refl _) _ hmem
      have hNl := W.eb
      have hs := sum_take_le ps.toL Pat.nb (i + 1)
      rw [sum_take_succ ek] at hs
      refine ⟨_, rfl, _, rfl, _, rfl, a, el, y, ci, E ++ N, ps.toL[i], cur, k, rfl, N2, ((hpt i _ _ ek e).same s1).mono (N1.tups b2), hko _ hmem, hk, by omega, W.lt, by rw [List.length_append]; omega, fun l c2 M H3 W2 b3 N3 => ?_⟩
      rw [List.append_assoc] at N3
      refine ⟨l, c2, N ++ M, _, rfl, b2.trans b3, N3, ?_⟩
      rw [sum_take_succ ek, sum_take_succ ek, List.take_add_one, ek]
      exact (W.seq hb W2).congr fun w => row_snoc _ w
    · rintro σ H2 ⟨cur, ci, N, v4, rfl, b2, N2, W⟩
      rw [List.length_map, hbl, List.take_length, Pats.ofL_toL] at W
      refine ⟨_, rfl, q cur ci N H2 ?_ ((But2.of s1).trans b2) N2⟩
      rw [L_row]
      simp only [Pat.wt, Pat.nb]
      rw [Pats.wt_toL, Pats.nb_toL]
      exact W
  | group p =>
    obtain rfl : ("group" : Str) = nm := hnm
    unfold PatAt at pt
    obtain ⟨y, hsq2, pb⟩ := pt
    simp only [Pat.Ok] at ok
    simp only [Pat.depth] at dp
    simp only [Pat.nb] at hE
    refine no_str ⟨_, rfl, rfl, _, rfl, yes_str ⟨_, rfl, _, rfl, x, _, _, _, rfl, rfl, hsq2, at1, _, rfl, a, el, y, c, E, p, b, k, rfl, hN, pb, ok, hk, by omega, hb, hE, fun l c' N H' W b1 N1 => q l c' N H' ?_ b1 N1⟩⟩
    rw [L_group]
    exact W
  | again p lo hi =>
    obtain rfl : ("again" : Str) = nm := hnm
    simp only [Pat.depth] at dp
    exact no_str ⟨_, rfl, rfl, _, rfl, no_str ⟨_, rfl, rfl, _, rfl, yes_str ⟨_, rfl, _, rfl, _, rfl, a, el, x, c, E, p, lo, hi, b, k, rfl, hN, pt, ok, hk, by omega, hb, hE, q⟩⟩⟩
  | non =>
    obtain rfl : ("none" : Str) = nm := hnm
    refine no_str ⟨_, rfl, rfl, _, rfl, no_str ⟨_, rfl, rfl, _, rfl, no_str ⟨_, rfl, a, el, c, E, rfl, hN, fun H1 b1 N1 => ?_⟩⟩⟩
    refine ⟨_, rfl, two 2 (by decide), fun p1 np1 => ⟨p1, _, rfl, .inr SqT.new, rfl, rfl, false, congrArg V.bl (show inV (.str "none") [.str "empty", .str "one"] = false by decide +kernel), iteF ?_⟩⟩
    have s2 := same_new np1 (.tup [V.str "empty", V.str "one"])
    refine ⟨_, rfl, rfl, _, rfl, no_str ⟨_, rfl, q c (c + 1) [] _ Wired.non (b1.trans (But2.of s2)) ?_⟩⟩
    rw [List.append_nil]
    exact N1.same s2
  | emp =>
    obtain rfl : ("empty" : Str) = nm := hnm
    simp only [Pat.nb] at hE
    refine no_str ⟨_, rfl, rfl, _, rfl, no_str ⟨_, rfl, rfl, _, rfl, no_str ⟨_, rfl, a, el, c, E, rfl, hN, fun H1 b1 N1 => ?_⟩⟩⟩
    refine ⟨_, rfl, two 2 (by decide), fun p1 np1 => ⟨p1, _, rfl, .inr SqT.new, rfl, rfl, true, congrArg V.bl (show inV (.str "empty") [.str "empty", .str "one"] = true by decide +kernel), iteT ?_⟩⟩
    have s2 := same_new np1 (.tup [V.str "empty", V.str "one"])
    have N2 := N1.same s2
    obtain ⟨es, he, hel⟩ := N2.len
    refine ⟨_, rfl, a, _, _, _, rfl, rfl, SqL.of N2.top, at1, .inl ⟨rfl, _, SqL.of he⟩, _, rfl, _, rfl, rfl, _, rfl, yes_str ⟨_, rfl, two 3 (by decide), fun tp ntp => ?_⟩⟩
    refine ⟨el, _, _, rfl, rfl, same_new ntp _ _ _ he, sz hel (by omega), ?_⟩
    obtain ⟨N3, b3⟩ := N2.app he ntp (b, [], c)
    exact ⟨_, rfl, rfl, _, rfl, no_str ⟨_, rfl, q c (c + 1) _ _ (Wired.emp hb) ((b1.trans (But2.of s2)).trans b3) N3⟩⟩
  | one u =>
    obtain rfl : ("one" : Str) = nm := hnm
    simp only [Pat.nb] at hE
    unfold PatAt at pt
    simp only [Pat.Ok] at ok
    obtain ⟨o1, o2, o3⟩ := ok
    refine no_str ⟨_, rfl, rfl, _, rfl, no_str ⟨_, rfl, rfl, _, rfl, no_str ⟨_, rfl, a, el, c, E, rfl, hN, fun H1 b1 N1 => ?_⟩⟩⟩
    refine ⟨_, rfl, two 2 (by decide), fun p1 np1 => ⟨p1, _, rfl, .inr SqT.new, rfl, rfl, true, congrArg V.bl (show inV (.str "one") [.str "empty", .str "one"] = true by decide +kernel), iteT ?_⟩⟩
    have s2 := same_new np1 (.tup [V.str "empty", V.str "one"])
    have N2 := N1.same s2
    have pt2 := Same.tup s2 (hN.tups b1 _ _ pt)
    obtain ⟨es, he, hel⟩ := N2.len
    refine ⟨_, rfl, a, _, _, _, rfl, rfl, SqL.of N2.top, at1, .inl ⟨rfl, _, SqL.of he⟩, _, rfl, _, rfl, rfl, _, rfl, no_str ⟨_, rfl, x, _, _, _, rfl, rfl, pt2, at1, _, rfl, two 3 (by decide), fun tp ntp => ?_⟩⟩
    refine ⟨el, _, _, rfl, rfl, same_new ntp _ _ _ he, sz hel (by omega), ?_⟩
    obtain ⟨N3, b3⟩ := N2.app he ntp (b, u, c)
    exact ⟨_, rfl, rfl, _, rfl, no_str ⟨_, rfl, q c (c + 1) _ _ (Wired.oneL hb o3 o2 o1) ((b1.trans (But2.of s2)).trans b3) N3⟩⟩
  | any ps =>
    obtain rfl : ("any" : Str) = nm := hnm
    unfold PatAt at pt
    obtain ⟨bs, hsq2, pbs⟩ := pt
    obtain ⟨hbl, hpt⟩ := (patsAt_iff _ _).mp pbs
    simp only [Pat.depth] at dp
    simp only [Pat.nb] at hE
    rw [Pats.nb1_toL] at hE
    refine no_str ⟨_, rfl, rfl, _, rfl, no_str ⟨_, rfl, rfl, _, rfl, no_str ⟨_, rfl, a, el, c, E, rfl, hN, fun H1 b1 N1 => ?_⟩⟩⟩
    refine ⟨_, rfl, two 2 (by decide), fun p1 np1 => ⟨p1, _, rfl, .inr SqT.new, rfl, rfl, false, congrArg V.bl (show inV (.str "any") [.str "empty", .str "one"] = false by decide +kernel), iteF ?_⟩⟩
    have s2 := same_new np1 (.tup [V.str "empty", V.str "one"])
    refine ⟨_, rfl, rfl, _, rfl, yes_str ?_⟩
    refine ⟨_, rfl, 1, rfl, x, _, rfl, Same.tup s2 (hN.tups b1 _ _ hsq2), cut_ne _ _, fun p2 np2 => ?_⟩
    rw [cut_tail]
    have s3 := s2.trans (same_new np2 (.tup (bs.map V.ref)))
    have N2 := N1.same s3
    have b2 : But2 a el H _ := b1.trans (But2.of s3)
    refine ⟨p2, rfl, ⟨_, SqT.new⟩, for_tup (K := K) (a := p2) (xs := bs.map V.ref) (fun i σ H3 => ∃ (ci : Nat) (N : List Edge) (v4 : Option V), σ = [some (.ref a), some (.ref x), some (nV b), some (.str "any"), v4, some (nV c)] ∧ But2 a el H H3 ∧ SqT K H3 p2 (bs.map V.ref) ∧ NetAt K H3 a el ci (E ++ N) ∧
        Wired k (LAny (Pats.ofL (ps.toL.take i))) (((ps.toL.take i).map Pat.wt).sum) (1 + ((ps.toL.take i).map fun p => p.nb + 1).sum) b c c ci N ∧ ∀ e, e ∈ N → e.1 ≠ c)
      ⟨c + 1, [], none, rfl, b2, SqT.new, by rw [List.append_nil]; exact N2, Wired.non.congr fun w => by show L .non w ↔ LAny .nil w; unfold L LAny; exact Iff.rfl, fun e h => by simp at h⟩ (fun i σ H2 _ h => ?_) ?_ ?_⟩
    · obtain ⟨_, _, _, _, _, h, _⟩ := h
      exact h
    · rintro i v σ H3 hx ⟨ci, N, v4, rfl, b3, hp2, N3, W, hno⟩
      rw [List.getElem?_map] at hx
      cases e : bs[i]? with
      | none =>
        rw [e] at hx
        cases hx
      | some y =>
      rw [e] at hx
      obtain rfl : V.ref y = v := Option.some.inj hx
      have hxl : i < ps.toL.length := by
        have := (List.getElem?_eq_some_iff.mp e).1
        omega
      have ek : ps.toL[i]? = some ps.toL[i] := List.getElem?_eq_getElem hxl
      have hmem := List.getElem_mem hxl
      have hdep := (Pats.depth_toL (m := ps.depth) ps).mp (Nat.le_refl _) _ hmem
      have hNl := W.eb
      have hle := W.le
      have hlt := W.lt
      have hs := sum_take_le ps.toL (fun p => p.nb + 1) (i + 1)
      rw [sum_take_succ ek] at hs
      obtain ⟨es, he, hel⟩ := N3.len
      refine ⟨_, rfl, a, _, _, _, rfl, rfl, SqL.of N3.top, at1, .inl ⟨rfl, _, SqL.of he⟩, _, rfl, _, rfl, _, rfl, a, el, y, ci, E ++ N, ps.toL[i], b, k, rfl, N3, (hpt i _ _ ek e).mono (hN.tups b3), hko _ hmem, hk, by omega, by omega, by rw [List.length_append]; omega, fun l c2 M H4 W2 b4 N4 => ?_⟩
      refine ⟨_, rfl, two 3 (by decide), fun tp ntp => ?_⟩
      obtain ⟨es4, he4, hel4⟩ := N4.len
      have hMl := W2.eb
      refine ⟨el, _, _, rfl, rfl, same_new ntp _ _ _ he4, sz hel4 (by simp only [List.length_append]; omega), ?_⟩
      obtain ⟨N5, b5⟩ := N4.app he4 ntp (l, [], c)
      rw [List.append_assoc, List.append_assoc] at N5
      obtain ⟨W3, hno3⟩ := Wired.more hb W hno W2
      refine ⟨c2, N ++ (M ++ [(l, [], c)]), _, rfl, (b3.trans b4).trans b5, N3.tups (b4.trans b5) _ _ hp2, N5, ?_, hno3⟩
      rw [sum_take_succ ek, sum_take_succ ek, List.take_add_one, ek]
      refine (W3.congr fun w => any_snoc _ w).weak (Nat.le_refl _) ?_
      omega
    · rintro σ H3 ⟨ci, N, v4, rfl, b3, hp2, N3, W, hno⟩
      rw [List.length_map, hbl, List.take_length, Pats.ofL_toL] at W
      refine ⟨_, rfl, q c ci N H3 ?_ b3 N3⟩
      rw [L_any]
      simp only [Pat.wt, Pat.nb]
      rw [Pats.wt_toL, Pats.nb1_toL]
      exact W
theorem ok_law_wire0 {f : Addr} {fd : FuncData} (F : Fun K "_law_wire" "_law_wire" s_law_wire f fd) : FnOk P w K mg base CX0 1 f fd ["net", "pattern", "begin"] (sp_law_wire K 0) := by
  refine F.ok (k := 0) sc_law_wire (fun vs H Q E h => ?_) (fun cdv A outer s0 H vs Q E hr h => ?_)
  · obtain ⟨a, el, x, c, E, p, b, k, rfl, _, _, _, _, h, _⟩ := h
    omega
  · obtain ⟨a, el, x, c, E, p, b, k, rfl, _, _, _, _, h, _⟩ := h
    omega
theorem ok_law_wire {f f2 : Addr} {fd fd2 : FuncData} (F : Fun K "_law_wire" "_law_wire" s_law_wire f fd) (F2 : Fun K "_law_wire_again" "_law_wire_again" s_law_wire_again f2 fd2) (B : Bt mg) (C_law_node : Got P w K mg base CX0 1 "_law_node" ["net"] (sp_law_node K))
    (got : ∀ k sp, FnOk P w K mg base CX0 k f fd ["net", "pattern", "begin"] sp → Got P w K mg base CX0 k "_law_wire" ["net", "pattern", "begin"] sp)
    (got2 : ∀ k sp, FnOk P w K mg base CX0 k f2 fd2 ["net", "pattern", "begin"] sp → Got P w K mg base CX0 k "_law_wire_again" ["net", "pattern", "begin"] sp) :
    ∀ m, FnOk P w K mg base CX0 (1 + 2 * m) f fd ["net", "pattern", "begin"] (sp_law_wire K m)
  | 0 => ok_law_wire0 F
  | m + 1 => by
    have g1 := got _ _ (ok_law_wire F F2 B C_law_node got got2 m)
    have g2 := got2 _ _ (ok_law_wire_again F2 B (by omega) C_law_node g1)
    have g3 := ok_law_wire1 F B (by omega) C_law_node g1 g2
    have e : 1 + 2 * m + 1 + 1 = 1 + 2 * (m + 1) := by omega
    rw [e] at g3
    exact g3
end
end Own
namespace Own
open PySem PySem.Spec PyProof.Rows L2
/-- what is come to by nothing -/
inductive Cl (E : List Edge) (A : Nat → Prop) : Nat → Prop
  | base {j : Nat} : A j → Cl E A j
  | eps {b l : Nat} : (b, [], l) ∈ E → Cl E A b → Cl E A l
theorem filt_gen {α : Type} (d : α) (g : α → V) : ∀ (S : List α) (P : α → Bool), ((List.range S.length).filter fun i => P (S.getD i d)).map (fun i => g (S.getD i d)) = (S.filter P).map g
  | [], P => rfl
  | a :: r, P => by
    have ih := filt_gen d g r P
    rw [List.length_cons, List.range_succ_eq_map, List.filter_cons, List.filter_map, List.filter_cons]
    have e0 : ∀ i, (a :: r).getD (i + 1) d = r.getD i d := fun i => by simp [List.getD_eq_getElem?_getD]
    have e1 : (a :: r).getD 0 d = a := rfl
    have e2 : ((fun i => P ((a :: r).getD i d)) ∘ Nat.succ) = fun i => P (r.getD i d) := by
      funext i
      show P ((a :: r).getD (i + 1) d) = _
      rw [e0]
    have e3 : ((fun i => g ((a :: r).getD i d)) ∘ Nat.succ) = fun i => g (r.getD i d) := by
      funext i
      show g ((a :: r).getD (i + 1) d) = _
      rw [e0]
    rw [e1, e2]
    by_cases h : P a = true
    · rw [if_pos h, if_pos h, List.map_cons, List.map_cons, List.map_map, e3, ih, e1]
    · rw [if_neg h, if_neg h, List.map_map, e3, ih]
section
variable {P : Program} {w : World} {K : PySem.W.Frag} {mg : Str → Option Value} {base : Heap}
theorem srt_raw {H : Hp} {Q : VK} {a : Addr} {F : List Nat} (ha : SqL K H a (F.map nV)) (hl : F.length ≤ 4000)
    (q : ∀ (S : List Nat) (l : Addr) (H' : Hp), Srt S (· ∈ F) → Same H H' → H l = none → H' l = some (.lst (S.map nV)) → Q (.ref l) H') :
    rSet1 w K [.ref a] H fun v H1 => rSorted1 w [v] H1 Q := by
  refine ⟨a, F.map fun i => ((i : Nat) : Int), rfl, by rw [List.map_map]; exact ha, by rw [List.length_map]; omega, fun p c np => ?_⟩
  have s1 := same_new np (SetO w p (fun j => decide (j ∈ F.map fun i => ((i : Nat) : Int))) c)
  refine ⟨p, _, c, rfl, upd_same, fun ns l h1 h2 nl => ?_⟩
  obtain ⟨S, e, hS⟩ := ints_nat h1 fun k => (h2 k).trans (by rw [decide_eq_true_iff])
  refine q S l _ hS (s1.trans (same_new nl _)) (s1.free nl) ?_
  rw [upd_same, e]
abbrev s_law_still : Stmt := topS 61
theorem sc_law_still : FnScope ["net", "nodes", "found", "more", "node", "begin", "letters", "late"] ["net", "nodes"] (defScope s_law_still) := ⟨rfl, rfl, rfl, by decide +kernel, rfl, by decide +kernel, by decide +kernel⟩
def sp_law_still (K : PySem.W.Frag) : Sp := fun vs H Q _ => ∃ (a el b : Addr) (c : Nat) (E : List Edge) (A : List Nat), vs = [.ref a, .ref b] ∧ NetAt K H a el c E ∧ E.length ≤ 4000 ∧ c ≤ 4000 ∧ (∀ e, e ∈ E → e.2.2 < c) ∧ SqL K H b (A.map nV) ∧ A.length ≤ 4000 ∧ (∀ j, j ∈ A → j < c) ∧
  ∀ (S : List Nat) (t : Addr) (H' : Hp), Srt S (Cl E (· ∈ A)) → Same H H' → H t = none → H' t = some (.tup (S.map nV)) → Q (.ref t) H'
theorem ok_law_still {f : Addr} {fd : FuncData} (F : Fun K "_law_still" "_law_still" s_law_still f fd) (B : Bt mg) : FnOk P w K mg base CX0 1 f fd ["net", "nodes"] (sp_law_still K) := by
  refine F.ok sc_law_still (fun vs H Q E h => ?_) (fun cdv A outer s0 H vs Q E hr h => ?_)
  · obtain ⟨a, el, b, c, E, A, rfl, _⟩ := h
    rfl
  obtain ⟨a, el, b, c, E, A, rfl, hN, hEl, hc, hE, hb, hA, hAc, q⟩ := h
  have two : ∀ n, n ≤ 10 → n ≤ sizeLine := fun n h => Nat.le_of_lt (small1000 (by omega))
  refine ⟨_, (pss_cons (ps_set (i := 2) sc_law_still.nd rfl (Or.inr rfl) (pe_callB (call_sorted1 rfl) (by rfl) B.sorted bt_sorted (pa_cons (pe_callTy (c_set K) (by rfl) B.set bt_set (pa_cons (pv 1) pa_nil)) pa_nil))) (pss_one (ps_while PassesOwn.never (pt_val pe_bl) (pss_cons (ps_set (i := 3) sc_law_still.nd rfl (Or.inl rfl) (pe_callB (call_sorted1 rfl) (by rfl) B.sorted bt_sorted (pa_cons (pe_callTy (c_set K) (by rfl) B.set bt_set (pa_cons (pe_lc (own := [("begin", 5), ("letters", 6), ("late", 7)]) rfl sc_law_still.nd (p_list K (p_ixl K (pv 0) pe_int)) (blkOk_by (by kernel_rfl)) (fun _ _ _ _ _ => (g_tup K 3 (pgs_cons (pg_name (i := 5) sc_law_still.nd rfl (Or.inl rfl)) (pgs_cons (pg_name (i := 6) sc_law_still.nd rfl (Or.inl rfl)) (pgs_cons (pg_name (i := 7) sc_law_still.nd rfl (Or.inl rfl)) pgs_nil))))) (fun _ _ _ _ _ => (pts_one (PW.pt (pw_and (pt_cmpR op_eq (pv 6) pe_str (nomark _)) (pw_and1 (t_in K (pv 5) (pv 2))))))) (fun _ _ _ _ _ => (pv 7))) pa_nil)) pa_nil))) (pss_cons (ps_setLc (i := 3) (own := [("node", 4)]) rfl sc_law_still.nd rfl rfl (sw_true rfl rfl rfl (by decide +kernel)) (p_list K (pv 3)) (blkOk_by (by kernel_rfl)) (fun _ _ _ _ _ => (pg_name (i := 4) sc_law_still.nd rfl (Or.inl rfl))) (fun _ _ _ _ _ => (pts_one (t_nin K (pv 4) (pv 2)))) (fun _ _ _ _ _ => (pv 4))) (pss_cons (ps_if (pt_cmpR (op_eqD hr.units) (pv 3) (pe_lst pa_nil) (nomark _)) (pss_one (ps_ret (pe_callTy (c_tup K) (by rfl) B.tuple bt_tuple (pa_cons (pv 2) pa_nil)))) pss_nil) (pss_one (ps_set (i := 2) sc_law_still.nd rfl (Or.inr rfl) (pe_callB cr_sortedI (by rfl) B.sorted bt_sorted (pa_cons (pe_op op_cat (pv 2) (pv 3)) pa_nil)))))))))), ?_⟩
  refine srt_set (i := 1) rfl hb hA fun S0 l0 H1 hS0 s1 nl0 hl0 => ?_
  have clt : ∀ j, Cl E (· ∈ A) j → j < c := fun j h => by
    induction h with
    | base h => exact hAc _ h
    | eps h _ _ => exact hE _ h
  refine ⟨fun m σ H2 => ∃ (l : Addr) (S : List Nat) (v3 : Option V), m = c - S.length ∧ σ = [some (.ref a), some (.ref b), some (.ref l), v3, none, none, none, none] ∧ Same H H2 ∧ H2 l = some (.lst (S.map nV)) ∧ S.Pairwise (· < ·) ∧ (∀ j, j ∈ A → j ∈ S) ∧ ∀ j, j ∈ S → Cl E (· ∈ A) j,
    ⟨_, l0, S0, none, rfl, rfl, s1, hl0, hS0.pw, fun j h => (hS0.iff j).mpr h, fun j h => .base ((hS0.iff j).mp h)⟩, ?_⟩
  rintro m σ H2 ⟨l, S, v3, hm, rfl, s2, hl, hpw, hAS, hScl⟩
  have hSl : S.length ≤ c := nodup_lt_length c (hpw.imp fun h e => by omega) fun x hx => clt x (hScl x hx)
  refine ⟨true, rfl, iteT ⟨_, fun _ _ h => h, ?_⟩⟩
  have N2 := hN.same s2
  obtain ⟨es, he, hel, hed⟩ := N2.ed
  refine ⟨_, rfl, a, _, _, _, rfl, rfl, SqL.of N2.top, at1, el, rfl, ⟨_, SqL.of he⟩, fun D nD => ?_⟩
  have eg : ∀ i (h : i < E.length), E.getD i (0, [], 0) = E[i] := fun i h => by rw [List.getD_eq_getElem?_getD, List.getElem?_eq_getElem h, Option.getD_some]
  refine lc_fm (walk_list (K := K) (a := el) (xs := es.map V.ref)) nD (fun i => nV (E.getD i (0, [], 0)).2.2) (fun i => decide ((E.getD i (0, [], 0)).2.1 = []) && decide ((E.getD i (0, [], 0)).1 ∈ S)) (by rw [List.length_map, hel]; rw [sizeLine_eq]; omega) (fun H3 s3 => SqL.of (s3 _ _ he)) ?_ ?_
  · rintro i x H3 H4 hi s3 ⟨rfl, hx⟩ R R0 hR hR0
    rw [List.length_map] at hi
    rw [List.getElem?_map, List.getElem?_eq_getElem hi] at hx
    obtain rfl : V.ref es[i] = x := Option.some.inj hx
    have hik : i < E.length := by omega
    rw [eg i hik] at hR hR0
    have hsq := Same.tup s3 (hed i _ _ (List.getElem?_eq_getElem hi) (List.getElem?_eq_getElem hik))
    refine ⟨es[i], _, rfl, hsq, rfl, _, _, rfl, _, _, rfl, _, _, rfl, rfl, rfl, ?_⟩
    have ed : decide (V.str (tx E[i].2.1) = V.str (Str.ofString "")) = decide (E[i].2.1 = []) := by
      rw [Bool.eq_iff_iff, decide_eq_true_iff, decide_eq_true_iff]
      constructor
      · intro h
        exact tx_inj ((V.str.inj h).trans empty_eq)
      · intro h
        rw [h]
        exact congrArg V.str empty_eq.symm
    refine ⟨_, rfl, rfl, _, rfl, ?_⟩
    rw [ed]
    cases h1 : decide (E[i].2.1 = []) with
    | false =>
      rw [h1] at hR0
      exact iteF (iteF (hR0 rfl _ (Same.refl _)))
    | true =>
      rw [h1] at hR hR0
      refine iteT ⟨_, rfl, _, rfl, l, _, rfl, .inl (SqL.of (s3 _ _ hl)), rfl, flat_nV S, decide (E[i].1 ∈ S), congrArg V.bl (inV_nV S _), ?_⟩
      cases h2 : decide (E[i].1 ∈ S) with
      | false =>
        rw [h2] at hR0
        exact iteF (hR0 rfl _ (Same.refl _))
      | true =>
        rw [h2] at hR
        exact iteT ⟨_, rfl, hR rfl _ (Same.refl _)⟩
  intro H3 s3 hD
  rw [List.length_map, hel, filt_gen (0, [], 0) (fun e : Edge => nV e.2.2) E (fun e => decide (e.2.1 = []) && decide (e.1 ∈ S))] at hD
  have hFl := List.length_filter_le (fun e : Edge => decide (e.2.1 = []) && decide (e.1 ∈ S)) E
  show rSet1 w K [.ref D] H3 fun v H1 => rSorted1 w [v] H1 fun x H2 => gName 3 x _ H2 _
  refine srt_raw (F := (E.filter fun e => decide (e.2.1 = []) && decide (e.1 ∈ S)).map (·.2.2)) (SqL.of (by rw [hD, List.map_map]; rfl)) (by rw [List.length_map]; omega) fun S1 l1 H4 hS1 s4 nl1 hl1 => ?_
  have hS1i : ∀ j, j ∈ S1 ↔ ∃ b, (b, [], j) ∈ E ∧ b ∈ S := fun j => by
    rw [hS1.iff]
    constructor
    · intro h
      obtain ⟨⟨b', s', l'⟩, he, rfl⟩ := List.mem_map.mp h
      obtain ⟨h1, h2⟩ := List.mem_filter.mp he
      rw [Bool.and_eq_true, decide_eq_true_iff, decide_eq_true_iff] at h2
      obtain ⟨h3, h4⟩ := h2
      have h3 : s' = [] := h3
      subst h3
      exact ⟨b', h1, h4⟩
    · rintro ⟨b', h1, h2⟩
      exact List.mem_map.mpr ⟨_, List.mem_filter.mpr ⟨h1, by rw [Bool.and_eq_true, decide_eq_true_iff, decide_eq_true_iff]; exact ⟨rfl, h2⟩⟩, rfl⟩
  have hS1c : ∀ j, j ∈ S1 → j < c := fun j h => by
    obtain ⟨b', h1, _⟩ := (hS1i j).mp h
    exact hE _ h1
  have hS1l : S1.length ≤ c := nodup_lt_length c (hS1.pw.imp fun h e => by omega) hS1c
  have s14 := (s2.trans s3).trans s4
  have hl4 := s4 _ _ (s3 _ _ hl)
  -- more = [node for node in more if node not in found]
  refine ⟨_, rfl, l1, rfl, ⟨_, SqL.of hl1⟩, fun D2 nD2 => ?_⟩
  refine lc_fm (walk_list (K := K) (a := l1) (xs := S1.map nV)) nD2 (fun x => nV (S1.getD x 0)) (fun x => !decide (S1.getD x 0 ∈ S)) (by rw [List.length_map, sizeLine_eq]; omega) (fun H5 s5 => SqL.of (s5 _ _ hl1)) ?_ ?_
  · rintro x v H5 H6 hx s5 ⟨rfl, hv⟩ R R0 hR hR0
    rw [List.length_map] at hx
    rw [List.getElem?_map, List.getElem?_eq_getElem hx] at hv
    obtain rfl : nV S1[x] = v := Option.some.inj hv
    have eg : S1.getD x 0 = S1[x] := by rw [List.getD_eq_getElem?_getD, List.getElem?_eq_getElem hx, Option.getD_some]
    rw [eg] at hR hR0
    refine ⟨rfl, _, rfl, _, rfl, l, _, rfl, .inl (SqL.of (s5 _ _ hl4)), rfl, flat_nV S, !decide (S1[x] ∈ S), congrArg (fun z => V.bl (!z)) (inV_nV S _), ?_⟩
    cases hb : decide (S1[x] ∈ S) with
    | true => exact iteF (hR0 (by rw [hb]; rfl) _ (Same.refl _))
    | false => exact iteT ⟨_, rfl, hR (by rw [hb]; rfl) _ (Same.refl _)⟩
  intro H5 s5 hD2
  rw [List.length_map, filt_get S1 (fun y => !decide (y ∈ S))] at hD2
  have hl5 := s5 _ _ hl4
  refine ⟨_, rfl, two 0 (by decide), fun p np => ?_⟩
  have s6 := same_new np (.lst [])
  have s16 := (s14.trans s5).trans s6
  have hD6 := s6 _ _ hD2
  have hl6 := s6 _ _ hl5
  refine ⟨dIs (S1.filter fun y => !decide (y ∈ S)), dIs [], dp_dIs (SqL.of hD6), dp_dIs (L := []) (SqL.of upd_same), shaped_dIs _, shaped_dIs _, _, rfl, ?_⟩
  rw [eqv_dIs]
  by_cases hn : (S1.filter fun y => !decide (y ∈ S)) = []
  · rw [decide_eq_true hn]
    have hclosed : ∀ j, Cl E (· ∈ A) j → j ∈ S := fun j h => by
      induction h with
      | base h => exact hAS _ h
      | @eps b' l' h _ ih =>
        refine Classical.byContradiction fun z => ?_
        have h1 : l' ∈ S1.filter fun y => !decide (y ∈ S) := List.mem_filter.mpr ⟨(hS1i l').mpr ⟨b', h, ih⟩, by rw [decide_eq_false z]; rfl⟩
        rw [hn] at h1
        simp at h1
    refine iteT ⟨_, rfl, l, _, rfl, SqL.of hl6, fun t nt => ?_⟩
    have s7 := same_new nt (.tup (S.map nV))
    exact q S t _ ⟨hpw, fun j => ⟨hScl j, hclosed j⟩⟩ (s16.trans s7) (s16.free nt) upd_same
  · rw [decide_eq_false hn]
    have hnl : (S1.filter fun y => !decide (y ∈ S)).length ≤ c := Nat.le_trans (List.length_filter_le _ _) hS1l
    have hnd : (S ++ S1.filter fun y => !decide (y ∈ S)).Nodup := by
      refine List.nodup_append.mpr ⟨hpw.imp fun h e => by omega, (hS1.pw.imp fun h e => by omega).filter _, ?_⟩
      intro x hx y hy e
      subst e
      have := (List.mem_filter.mp hy).2
      rw [decide_eq_true hx] at this
      cases this
    refine iteF ⟨_, rfl, _, rfl, l, D2, _, _, rfl, rfl, hl6, hD6, ?_, fun l3 n3 => ?_⟩
    · rw [List.length_map, List.length_map, sizeLine_eq]
      omega
    have s7 := same_new n3 (.lst (S.map nV ++ (S1.filter fun y => !decide (y ∈ S)).map nV))
    refine ⟨l3, (S ++ S1.filter fun y => !decide (y ∈ S)).map fun i => ((i : Nat) : Int), rfl, SqL.of (by rw [upd_same, List.map_map, List.map_append]; rfl), fun ns' l4 hp hpw' n4 => ?_⟩
    obtain ⟨S2, e, hS2, hS2l⟩ := ints_perm hnd hp hpw'
    have s8 := same_new n4 (.lst (ns'.map V.int))
    rw [List.length_append] at hS2l
    have hpos := List.length_pos_iff.mpr hn
    have hin : ∀ j, j ∈ S2 → Cl E (· ∈ A) j := fun j h => by
      rcases List.mem_append.mp ((hS2.iff j).mp h) with h | h
      · exact hScl j h
      · obtain ⟨b', h1, h2⟩ := (hS1i j).mp (List.mem_filter.mp h).1
        exact .eps h1 (hScl b' h2)
    have hS2c : S2.length ≤ c := nodup_lt_length c (hS2.pw.imp fun h e => by omega) fun x hx => clt x (hin x hx)
    refine ⟨c - S2.length, by omega, l4, S2, _, rfl, rfl, (s16.trans s7).trans s8, by rw [upd_same, e], hS2.pw, fun j h => (hS2.iff j).mpr (List.mem_append_left _ (hAS j h)), hin⟩
end
end Own
namespace Own
open PySem PySem.Spec PyProof.Rows L2
theorem Cl.congr {E : List Edge} {A B : Nat → Prop} (h : ∀ j, A j ↔ B j) {j : Nat} : Cl E A j ↔ Cl E B j := by
  have e : A = B := funext fun j => propext (h j)
  rw [e]
theorem mem_sg (x : Nat) (s : Word) : decide (x + 97 ∈ (tx s).cps.toList) = decide (x ∈ s) := by
  rw [Bool.eq_iff_iff, decide_eq_true_iff, decide_eq_true_iff, tx_cps]
  constructor
  · intro h
    obtain ⟨y, hy, e⟩ := List.mem_map.mp h
    have : y = x := by omega
    rw [← this]
    exact hy
  · intro h
    exact List.mem_map.mpr ⟨_, h, rfl⟩
theorem dec_empty (s : Word) : decide (V.str (tx s) = V.str (Str.ofString "")) = decide (s = []) := by
  rw [Bool.eq_iff_iff, decide_eq_true_iff, decide_eq_true_iff]
  constructor
  · intro h
    exact tx_inj ((V.str.inj h).trans empty_eq)
  · intro h
    rw [h]
    exact congrArg V.str empty_eq.symm
/-- a step by a letter -/
def StepTo (E : List Edge) (S : List Nat) (x j : Nat) : Prop := ∃ b s, (b, s, j) ∈ E ∧ x ∈ s ∧ b ∈ S
section
variable {P : Program} {w : World} {K : PySem.W.Frag} {mg : Str → Option Value} {base : Heap}
abbrev s_law_step : Stmt := topS 62
theorem sc_law_step : FnScope ["net", "nodes", "letter", "some", "edge", "begin", "letters", "late"] ["net", "nodes", "letter"] (defScope s_law_step) := ⟨rfl, rfl, rfl, by decide +kernel, rfl, by decide +kernel, by decide +kernel⟩
def sp_law_step (K : PySem.W.Frag) : Sp := fun vs H Q _ => ∃ (a el b : Addr) (c : Nat) (E : List Edge) (S : List Nat) (x : Nat), vs = [.ref a, .ref b, .str (sg x)] ∧ NetAt K H a el c E ∧ E.length ≤ 4000 ∧ c ≤ 4000 ∧ (∀ e, e ∈ E → e.2.2 < c) ∧ SqT K H b (S.map nV) ∧
  ∀ (S' : List Nat) (t : Addr) (H' : Hp), Srt S' (Cl E (StepTo E S x)) → Same H H' → H t = none → H' t = some (.tup (S'.map nV)) → Q (.ref t) H'
theorem ok_law_step {f : Addr} {fd : FuncData} (F : Fun K "_law_step" "_law_step" s_law_step f fd) (B : Bt mg) (C_law_still : Got P w K mg base CX0 1 "_law_still" ["net", "nodes"] (sp_law_still K)) : FnOk P w K mg base CX0 2 f fd ["net", "nodes", "letter"] (sp_law_step K) := by
  refine F.ok sc_law_step (fun vs H Q E h => ?_) (fun cdv A outer s0 H vs Q E hr h => ?_)
  · obtain ⟨a, el, b, c, E, S, x, rfl, _⟩ := h
    rfl
  obtain ⟨a, el, b, c, E, S, x, rfl, hN, hEl, hc, hE, hb, q⟩ := h
  have hr1 : Room 1 _ := hr.mono (by decide)
  refine ⟨_, (pss_cons (ps_setLc (i := 3) (own := [("edge", 4)]) rfl sc_law_step.nd rfl rfl (sw_true rfl rfl rfl (by decide +kernel)) (p_list K (p_ixl K (pv 0) pe_int)) (blkOk_by (by kernel_rfl)) (fun _ _ _ _ _ => (pg_name (i := 4) sc_law_step.nd rfl (Or.inl rfl))) (fun _ _ _ _ _ => (pts_one (PW.pt (pw_and (pt_cmpR op_ne (p_ixt K (pv 4) pe_int) pe_str (nomark _)) (pw_and1 (t_ins (pv 2) (p_ixt K (pv 4) pe_int))))))) (fun _ _ _ _ _ => (pv 4))) (pss_one (ps_ret (C_law_still.call hr1 (by rfl) (pa_cons (pv 0) (pa_cons (pe_lc (own := [("begin", 5), ("letters", 6), ("late", 7)]) rfl sc_law_step.nd (p_list K (pv 3)) (blkOk_by (by kernel_rfl)) (fun _ _ _ _ _ => (g_tup K 3 (pgs_cons (pg_name (i := 5) sc_law_step.nd rfl (Or.inl rfl)) (pgs_cons (pg_name (i := 6) sc_law_step.nd rfl (Or.inl rfl)) (pgs_cons (pg_name (i := 7) sc_law_step.nd rfl (Or.inl rfl)) pgs_nil))))) (fun _ _ _ _ _ => (pts_one (t_in K (pv 5) (pv 1)))) (fun _ _ _ _ _ => (pv 7))) pa_nil)))))), ?_⟩
  obtain ⟨es, he, hel, hed⟩ := hN.ed
  have eg : ∀ i (h : i < E.length), E.getD i (0, [], 0) = E[i] := fun i h => by rw [List.getD_eq_getElem?_getD, List.getElem?_eq_getElem h, Option.getD_some]
  have eg2 : ∀ i (h : i < es.length), es.getD i 0 = es[i] := fun i h => by rw [List.getD_eq_getElem?_getD, List.getElem?_eq_getElem h, Option.getD_some]
  refine ⟨_, rfl, a, _, _, _, rfl, rfl, SqL.of hN.top, at1, el, rfl, ⟨_, SqL.of he⟩, fun D nD => ?_⟩
  refine lc_fm (walk_list (K := K) (a := el) (xs := es.map V.ref)) nD (fun i => V.ref (es.getD i 0)) (fun i => !decide ((E.getD i (0, [], 0)).2.1 = []) && decide (x ∈ (E.getD i (0, [], 0)).2.1)) (by rw [List.length_map, hel]; rw [sizeLine_eq]; omega) (fun H3 s3 => SqL.of (s3 _ _ he)) ?_ ?_
  · rintro i y H3 H4 hi s3 ⟨rfl, hx⟩ R R0 hR hR0
    rw [List.length_map] at hi
    rw [List.getElem?_map, List.getElem?_eq_getElem hi] at hx
    obtain rfl : V.ref es[i] = y := Option.some.inj hx
    have hik : i < E.length := by omega
    rw [eg i hik] at hR hR0
    rw [eg2 i hi] at hR
    have hsq := Same.tup s3 (hed i _ _ (List.getElem?_eq_getElem hi) (List.getElem?_eq_getElem hik))
    refine ⟨rfl, _, rfl, es[i], _, _, _, rfl, rfl, hsq, at1, rfl, _, rfl, ?_⟩
    rw [dec_empty]
    cases h1 : decide (E[i].2.1 = []) with
    | true =>
      rw [h1] at hR0
      exact iteF (iteF (hR0 rfl _ (Same.refl _)))
    | false =>
      rw [h1] at hR hR0
      refine iteT ⟨_, rfl, _, rfl, es[i], _, _, _, rfl, rfl, hsq, at1, x + 97, tx E[i].2.1, rfl, rfl, _, rfl, ?_⟩
      rw [mem_sg]
      cases h2 : decide (x ∈ E[i].2.1) with
      | false =>
        rw [h2] at hR0
        exact iteF (hR0 rfl _ (Same.refl _))
      | true =>
        rw [h2] at hR
        exact iteT ⟨_, rfl, hR rfl _ (Same.refl _)⟩
  intro H3 s3 hD
  rw [List.length_map, hel] at hD
  generalize hI : (List.range E.length).filter (fun i => !decide ((E.getD i (0, [], 0)).2.1 = []) && decide (x ∈ (E.getD i (0, [], 0)).2.1)) = I at hD
  have hIlt : ∀ i, i ∈ I → i < E.length := fun i h => by
    rw [← hI] at h
    exact List.mem_range.mp (List.mem_filter.mp h).1
  have hIl : I.length ≤ E.length := by
    rw [← hI]
    have := List.length_filter_le (fun i => !decide ((E.getD i (0, [], 0)).2.1 = []) && decide (x ∈ (E.getD i (0, [], 0)).2.1)) (List.range E.length)
    rwa [List.length_range] at this
  refine ⟨_, rfl, _, rfl, D, rfl, ⟨_, SqL.of hD⟩, fun D2 nD2 => ?_⟩
  refine lc_fm (walk_list (K := K) (a := D) (xs := I.map fun i => V.ref (es.getD i 0))) nD2 (fun i => nV (E.getD (I.getD i 0) (0, [], 0)).2.2) (fun i => decide ((E.getD (I.getD i 0) (0, [], 0)).1 ∈ S)) (by rw [List.length_map, sizeLine_eq]; omega) (fun H4 s4 => SqL.of (s4 _ _ hD)) ?_ ?_
  · rintro i y H4 H5 hi s4 ⟨rfl, hx⟩ R R0 hR hR0
    rw [List.length_map] at hi
    rw [List.getElem?_map, List.getElem?_eq_getElem hi] at hx
    obtain rfl : V.ref (es.getD I[i] 0) = y := Option.some.inj hx
    have egI : I.getD i 0 = I[i] := by rw [List.getD_eq_getElem?_getD, List.getElem?_eq_getElem hi, Option.getD_some]
    have hik := hIlt _ (List.getElem_mem hi)
    have hik2 : I[i] < es.length := by omega
    rw [egI, eg _ hik] at hR hR0
    have hsq := Same.tup (s3.trans s4) (hed I[i] _ _ (List.getElem?_eq_getElem hik2) (List.getElem?_eq_getElem hik))
    rw [eg2 _ hik2]
    refine ⟨es[I[i]], _, rfl, hsq, rfl, _, _, rfl, _, _, rfl, _, _, rfl, rfl, rfl, ?_⟩
    refine ⟨_, rfl, _, rfl, b, _, rfl, .inr (Same.tup (s3.trans s4) hb), rfl, flat_nV S, decide (E[I[i]].1 ∈ S), congrArg V.bl (inV_nV S _), ?_⟩
    cases h2 : decide (E[I[i]].1 ∈ S) with
    | false =>
      rw [h2] at hR0
      exact iteF (hR0 rfl _ (Same.refl _))
    | true =>
      rw [h2] at hR
      exact iteT ⟨_, rfl, hR rfl _ (Same.refl _)⟩
  intro H4 s4 hD2
  rw [List.length_map, filt_gen 0 (fun i => nV (E.getD i (0, [], 0)).2.2) I (fun i => decide ((E.getD i (0, [], 0)).1 ∈ S))] at hD2
  have hFl := List.length_filter_le (fun i => decide ((E.getD i (0, [], 0)).1 ∈ S)) I
  have hF : ∀ j, j ∈ ((I.filter fun i => decide ((E.getD i (0, [], 0)).1 ∈ S)).map fun i => (E.getD i (0, [], 0)).2.2) ↔ StepTo E S x j := fun j => by
    constructor
    · intro h
      obtain ⟨i, hi, rfl⟩ := List.mem_map.mp h
      obtain ⟨h1, h2⟩ := List.mem_filter.mp hi
      have hik := hIlt i h1
      rw [← hI] at h1
      have h3 := (List.mem_filter.mp h1).2
      rw [Bool.and_eq_true, decide_eq_true_iff] at h3
      rw [eg i hik] at h2 h3 ⊢
      exact ⟨E[i].1, E[i].2.1, List.getElem_mem hik, h3.2, of_decide_eq_true h2⟩
    · rintro ⟨b', s', h1, h2, h3⟩
      obtain ⟨i, hik, e⟩ := List.getElem_of_mem h1
      refine List.mem_map.mpr ⟨i, List.mem_filter.mpr ⟨?_, ?_⟩, by rw [eg i hik, e]⟩
      · rw [← hI]
        refine List.mem_filter.mpr ⟨List.mem_range.mpr hik, ?_⟩
        rw [eg i hik, e, Bool.and_eq_true]
        refine ⟨?_, decide_eq_true h2⟩
        have : s' ≠ [] := fun z => by
          rw [z] at h2
          simp at h2
        rw [decide_eq_false this]
        rfl
      · rw [eg i hik, e]
        exact decide_eq_true h3
  refine ⟨a, el, D2, c, E, (I.filter fun i => decide ((E.getD i (0, [], 0)).1 ∈ S)).map fun i => (E.getD i (0, [], 0)).2.2, rfl, (hN.same s3).same s4, hEl, hc, hE, SqL.of (by rw [hD2, List.map_map]; rfl), by rw [List.length_map]; omega, fun j h => ?_, fun S' t H5 hS' s5 nt ht => ?_⟩
  · obtain ⟨b', s', h1, _⟩ := (hF j).mp h
    exact hE _ h1
  · exact q S' t H5 (hS'.ext fun j => Cl.congr hF) ((s3.trans s4).trans s5) ((s3.trans s4).free nt) ht
end
end Own
namespace Own
theorem subset_length {α : Type} [DecidableEq α] : ∀ {l m : List α}, l.Nodup → (∀ x, x ∈ l → x ∈ m) → l.length ≤ m.length
  | [], m, _, _ => Nat.zero_le _
  | a :: l, m, nd, h => by
    obtain ⟨h1, h2⟩ := List.nodup_cons.mp nd
    have ha := h a List.mem_cons_self
    have ih := subset_length (l := l) (m := m.erase a) h2 fun x hx => by
      have hne : x ≠ a := fun e => h1 (e ▸ hx)
      exact (List.mem_erase_of_ne hne).mpr (h x (List.mem_cons_of_mem _ hx))
    rw [List.length_erase_of_mem ha] at ih
    have := List.length_pos_of_mem ha
    rw [List.length_cons]
    omega
/-- the numbers of the kinds of things, in the order of their first ones -/
structure Clsf {α : Type} (Ts : List α) (R : List Nat) : Prop where
  len : R.length = Ts.length
  iff : ∀ (i j : Nat) (ti tj : α) (ri rj : Nat), Ts[i]? = some ti → Ts[j]? = some tj → R[i]? = some ri → R[j]? = some rj → (ri = rj ↔ ti = tj)
  onto : ∀ r x, x ∈ R → r ≤ x → r ∈ R
def addF {α : Type} [DecidableEq α] (acc : List α) (t : α) : List α := if t ∈ acc then acc else acc ++ [t]
def firsts {α : Type} [DecidableEq α] (Ts : List α) : List α := Ts.foldl addF []
theorem addF_nodup {α : Type} [DecidableEq α] {acc : List α} (h : acc.Nodup) (t : α) : (addF acc t).Nodup := by
  unfold addF
  split
  · exact h
  · rename_i hn
    exact nodup_snoc h hn
theorem mem_addF {α : Type} [DecidableEq α] {acc : List α} {t x : α} : x ∈ addF acc t ↔ x ∈ acc ∨ x = t := by
  unfold addF
  split
  · rename_i h
    constructor
    · exact .inl
    · rintro (h' | rfl)
      · exact h'
      · exact h
  · rw [List.mem_append, List.mem_singleton]
theorem firsts_snoc {α : Type} [DecidableEq α] (Ts : List α) (t : α) : firsts (Ts ++ [t]) = addF (firsts Ts) t := by
  unfold firsts
  rw [List.foldl_append]
  rfl
theorem foldl_mem {α : Type} [DecidableEq α] : ∀ (Ts acc : List α) (x : α), x ∈ Ts.foldl addF acc ↔ x ∈ acc ∨ x ∈ Ts
  | [], acc, x => by simp
  | t :: Ts, acc, x => by
    rw [List.foldl_cons, foldl_mem Ts, mem_addF, List.mem_cons]
    constructor
    · rintro ((h | h) | h)
      · exact .inl h
      · exact .inr (.inl h)
      · exact .inr (.inr h)
    · rintro (h | h | h)
      · exact .inl (.inl h)
      · exact .inl (.inr h)
      · exact .inr h
theorem foldl_nodup {α : Type} [DecidableEq α] : ∀ (Ts acc : List α), acc.Nodup → (Ts.foldl addF acc).Nodup
  | [], acc, h => h
  | t :: Ts, acc, h => foldl_nodup Ts _ (addF_nodup h t)
theorem mem_firsts {α : Type} [DecidableEq α] {Ts : List α} {x : α} : x ∈ firsts Ts ↔ x ∈ Ts := by
  unfold firsts
  rw [foldl_mem]
  simp
theorem firsts_nodup {α : Type} [DecidableEq α] (Ts : List α) : (firsts Ts).Nodup := foldl_nodup Ts [] List.nodup_nil
def clsOf {α : Type} [DecidableEq α] (Ts : List α) : List Nat := Ts.map fun t => (firsts Ts).idxOf t
theorem clsOf_ok {α : Type} [DecidableEq α] (Ts : List α) : Clsf Ts (clsOf Ts) := by
  refine ⟨List.length_map _, fun i j ti tj ri rj h1 h2 h3 h4 => ?_, fun r x hx hr => ?_⟩
  · unfold clsOf at h3 h4
    rw [List.getElem?_map, h1] at h3
    rw [List.getElem?_map, h2] at h4
    obtain rfl := Option.some.inj h3
    obtain rfl := Option.some.inj h4
    constructor
    · intro e
      have m1 := mem_firsts.mpr (List.mem_of_getElem? h1)
      have m2 := mem_firsts.mpr (List.mem_of_getElem? h2)
      have e1 := List.getElem_idxOf (List.idxOf_lt_length_of_mem m1)
      have e2 := List.getElem_idxOf (List.idxOf_lt_length_of_mem m2)
      rw [← e1, ← e2]
      simp only [e]
    · rintro rfl
      rfl
  · obtain ⟨t, ht, rfl⟩ := List.mem_map.mp hx
    have hl := List.idxOf_lt_length_of_mem (mem_firsts.mpr ht)
    have hrl : r < (firsts Ts).length := by omega
    have hm : (firsts Ts)[r] ∈ Ts := mem_firsts.mp (List.getElem_mem hrl)
    refine List.mem_map.mpr ⟨(firsts Ts)[r], hm, ?_⟩
    exact (firsts_nodup Ts).idxOf_getElem r hrl
/-- a finer sorting with no more kinds is the same sorting -/
theorem same_kinds {α β : Type} {Ts : List α} {Us : List β} {R S : List Nat} (hR : Clsf Ts R) (hS : Clsf Us S) (hl : Us.length = Ts.length) (M : Nat) (m1 : M ∈ R) (m2 : ∀ x, x ∈ R → x ≤ M) (m3 : M ∈ S) (m4 : ∀ x, x ∈ S → x ≤ M)
    (fin : ∀ (i j ri rj si sj : Nat), R[i]? = some ri → R[j]? = some rj → S[i]? = some si → S[j]? = some sj → si = sj → ri = rj) :
    ∀ (i j ri rj si sj : Nat), R[i]? = some ri → R[j]? = some rj → S[i]? = some si → S[j]? = some sj → ri = rj → si = sj := by
  intro i j ri rj si sj h1 h2 h3 h4 e
  refine Classical.byContradiction fun hne => ?_
  have hlen : R.length = S.length := by rw [hR.len, hS.len, hl]
  -- every kind of R is got at a kind of S other than sj
  have cov : ∀ x, x ≤ M → ∃ k, k < S.length ∧ R[k]? = some x ∧ S[k]? ≠ some sj := by
    intro x hx
    obtain ⟨k, hk⟩ := List.getElem?_of_mem (hR.onto x M m1 hx)
    have hkl : k < R.length := (List.getElem?_eq_some_iff.mp hk).1
    by_cases z : S[k]? = some sj
    · have : x = rj := fin k j x rj sj sj hk h2 z h4 rfl
      subst this
      refine ⟨i, ?_, by rw [h1, e], by rw [h3]; exact fun w => hne (Option.some.inj w)⟩
      have := (List.getElem?_eq_some_iff.mp h3).1
      omega
    · exact ⟨k, by omega, hk, z⟩
  -- so the kinds of S other than sj are as many as all of R's
  let f : Nat → Nat := fun s => match (S.idxOf s |> fun k => R[k]?) with | some r => r | none => 0
  have key : ∀ x, x ∈ List.range (M + 1) → x ∈ ((List.range (M + 1)).erase sj).map f := by
    intro x hx
    obtain ⟨k, hk, hr, hs⟩ := cov x (by have := List.mem_range.mp hx; omega)
    have hsk : S[k]? = some S[k] := List.getElem?_eq_getElem hk
    have hmem : S[k] ∈ S := List.getElem_mem hk
    refine List.mem_map.mpr ⟨S[k], (List.mem_erase_of_ne (fun z => hs (by rw [hsk, z]))).mpr (List.mem_range.mpr (by have := m4 _ hmem; omega)), ?_⟩
    have hi := List.idxOf_lt_length_of_mem hmem
    have hg : S[S.idxOf S[k]]? = some S[k] := by rw [List.getElem?_eq_getElem hi, List.getElem_idxOf hi]
    have hrl : S.idxOf S[k] < R.length := by omega
    have hr2 : R[S.idxOf S[k]]? = some R[S.idxOf S[k]] := List.getElem?_eq_getElem hrl
    have := fin _ _ _ _ _ _ hr2 hr hg hsk rfl
    show (match R[S.idxOf S[k]]? with | some r => r | none => 0) = x
    rw [hr2]
    exact this
  have hle := subset_length List.nodup_range key
  have hsj : sj ≤ M := m4 sj (List.mem_of_getElem? h4)
  rw [List.length_map, List.length_erase_of_mem (List.mem_range.mpr (by omega)), List.length_range] at hle
  omega
end Own
namespace Own
open PySem PySem.Spec PyProof.Rows L2
theorem hu65_of {A : Around} {k : Nat} (hr : Room k A) : A.units + 65 < cLine := by
  have := hr.un
  omega
theorem depth_mem {α : Type} (f : α → PyData) (b : Nat) : ∀ xs : List α, (∀ x, x ∈ xs → (f x).depth ≤ b) → PyData.depthAll (xs.map f) ≤ b
  | [], _ => by simp [PyData.depthAll]
  | x :: xs, h => by
    have h1 := h x List.mem_cons_self
    have h2 := depth_mem f b xs fun y hy => h y (List.mem_cons_of_mem _ hy)
    simp only [List.map_cons, PyData.depthAll]
    omega
/-- data that are small enough -/
def SmD (d : PyData) : Prop := d.canLay0 = true ∧ d.depth ≤ 60
theorem SmD.sh {d : PyData} (h : SmD d) : SeqAt.shaped d = true := by
  unfold SeqAt.shaped
  rw [h.1, decide_eq_true (show d.depth ≤ 64 by have := h.2; omega)]
  rfl
theorem shaped_list {α : Type} (f : α → PyData) (xs : List α) (h : ∀ x, x ∈ xs → SmD (f x)) : SeqAt.shaped (.list (xs.map f)) = true := by
  have h1 : (PyData.list (xs.map f)).canLay0 = true := by
    rw [PyData.canLay0]
    exact canLay_mem f xs fun x hx => (h x hx).1
  have h2 : (PyData.list (xs.map f)).depth ≤ 64 := by
    have := depth_mem f 60 xs fun x hx => (h x hx).2
    simp only [PyData.depth]
    omega
  unfold SeqAt.shaped
  rw [h1, decide_eq_true h2]
  rfl
theorem any_dec {α : Type} [DecidableEq α] (f : α → PyData) (h : ∀ x y, PyData.eqv (f x) (f y) = decide (x = y)) (t : α) : ∀ xs : List α, ((xs.map f).any fun z => PyData.eqv z (f t)) = decide (t ∈ xs)
  | [] => rfl
  | x :: xs => by
    rw [List.map_cons, List.any_cons, any_dec f h t xs, h, Bool.eq_iff_iff, Bool.or_eq_true, decide_eq_true_iff, decide_eq_true_iff, decide_eq_true_iff, List.mem_cons]
    constructor
    · rintro (h | h)
      · exact .inl h.symm
      · exact .inr h
    · rintro (h | h)
      · exact .inl h.symm
      · exact .inr h
theorem dpAll_of {α : Type} {K : PySem.W.Frag} {H : Hp} (f : α → PyData) : ∀ (vs : List V) (ts : List α), vs.length = ts.length → (∀ (i : Nat) (v : V) (t : α), vs[i]? = some v → ts[i]? = some t → Dp K H v (f t)) → DpAll K H vs (ts.map f)
  | [], [], _, _ => .nil
  | [], _ :: _, h, _ => by simp at h
  | _ :: _, [], h, _ => by simp at h
  | v :: vs, t :: ts, h, q => .cons (q 0 v t rfl rfl) (dpAll_of f vs ts (by simpa using h) fun i v' t' h1 h2 => q (i + 1) v' t' (by simpa using h1) (by simpa using h2))
section
variable {P : Program} {w : World} {K : PySem.W.Frag} {mg : Str → Option Value} {base : Heap}
abbrev s_law_classes : Stmt := topS 64
theorem sc_law_classes : FnScope ["things", "found", "thing"] ["things"] (defScope s_law_classes) := ⟨rfl, rfl, rfl, by decide +kernel, rfl, by decide +kernel, by decide +kernel⟩
def sp_law_classes (K : PySem.W.Frag) : Sp := fun vs H Q _ => ∃ (α : Type) (_ : DecidableEq α) (dv : α → PyData) (a : Addr) (xs : List V) (Ts : List α), vs = [.ref a] ∧ H a = some (.lst xs) ∧ xs.length = Ts.length ∧ Ts.length ≤ 1000 ∧
  (∀ x y, PyData.eqv (dv x) (dv y) = decide (x = y)) ∧ (∀ t, t ∈ Ts → SmD (dv t)) ∧ (∀ H', Same H H' → ∀ (i : Nat) (v : V) (t : α), xs[i]? = some v → Ts[i]? = some t → Dp K H' v (dv t)) ∧
  ∀ (l : Addr) (H' : Hp), Same H H' → H l = none → H' l = some (.lst ((clsOf Ts).map nV)) → Q (.ref l) H'
theorem ok_law_classes {f : Addr} {fd : FuncData} (F : Fun K "_law_classes" "_law_classes" s_law_classes f fd) (B : Bt mg) : FnOk P w K mg base CX0 1 f fd ["things"] (sp_law_classes K) := by
  refine F.ok sc_law_classes (fun vs H Q E h => ?_) (fun cdv A outer s0 H vs Q E hr h => ?_)
  · obtain ⟨α, _, dv, a, xs, Ts, rfl, _⟩ := h
    rfl
  obtain ⟨α, dec, dv, a, xs, Ts, rfl, ha, hxl, hTl, eqv, sm, dp, q⟩ := h
  have hu65 := hu65_of hr
  refine ⟨_, (pss_cons (ps_set (i := 1) sc_law_classes.nd rfl (Or.inr rfl) (pe_lst pa_nil)) (pss_cons (ps_for PassesOwn.never rfl (p_list K (pv 0)) (pg_name (i := 2) sc_law_classes.nd rfl (Or.inl rfl)) (pss_one (ps_if (t_ninD K hu65 (pv 2) (pv 1)) (pss_one (ps_expr (p_app K (pv 1) (pa_cons (pv 2) pa_nil)))) pss_nil))) (pss_one (ps_ret (pe_lc (own := [("thing", 2)]) rfl sc_law_classes.nd (p_list K (pv 0)) (blkOk_by (by kernel_rfl)) (fun _ _ _ _ _ => (pg_name (i := 2) sc_law_classes.nd rfl (Or.inl rfl))) (fun _ _ _ _ _ => pts_nil) (fun _ _ _ _ _ => (p_lixD K hu65 (pv 1) (pa_cons (pv 2) pa_nil)))))))), ?_⟩
  refine ⟨by decide, fun l nl => ?_⟩
  have s1 := same_new nl (.lst [])
  have nla : a ≠ l := ne_of_none ha nl
  refine ⟨_, rfl, a, rfl, ⟨_, SqL.of (s1 _ _ ha)⟩, for_list (K := K) (a := a) (xs := xs) (fun i σ H1 => ∃ (v2 : Option V) (ys : List V), i ≤ Ts.length ∧ σ = [some (.ref a), some (.ref l), v2] ∧ Same H H1 ∧ H1 l = some (.lst ys) ∧ ys.length = (firsts (Ts.take i)).length ∧
      ∀ (j : Nat) (v : V) (t : α), ys[j]? = some v → (firsts (Ts.take i))[j]? = some t → ∃ k : Nat, xs[k]? = some v ∧ Ts[k]? = some t)
    ⟨none, [], Nat.zero_le _, rfl, s1, upd_same, rfl, fun j v t h => by simp at h⟩ (fun i σ H1 _ h => ?_) ?_ ?_⟩
  · obtain ⟨_, _, _, _, h, _⟩ := h
    exact SqL.of (h _ _ ha)
  · rintro i x σ H1 hx ⟨v2, ys, hi, rfl, s2, hl, hyl, hy⟩
    have hil : i < Ts.length := by
      have := (List.getElem?_eq_some_iff.mp hx).1
      omega
    have hT : Ts[i]? = some Ts[i] := List.getElem?_eq_getElem hil
    have etk : Ts.take (i + 1) = Ts.take i ++ [Ts[i]] := by rw [List.take_add_one, hT]; rfl
    have smF : ∀ t, t ∈ firsts (Ts.take i) → SmD (dv t) := fun t ht => sm t (List.mem_of_mem_take (mem_firsts.mp ht))
    have dpF : Dp K H1 (.ref l) (.list ((firsts (Ts.take i)).map dv)) := .lst (SqL.of hl) (dpAll_of dv ys _ hyl fun j v t h1 h2 => by
      obtain ⟨k, h3, h4⟩ := hy j v t h1 h2
      exact dp H1 s2 k v t h3 h4)
    refine ⟨_, rfl, _, rfl, dv Ts[i], _, dp H1 s2 i x _ hx hT, dpF, (sm _ (List.getElem_mem hil)).sh, shaped_list dv _ smF, _, rfl, ?_⟩
    rw [any_dec dv eqv]
    have hfl : (firsts (Ts.take i)).length ≤ Ts.length := by
      refine Nat.le_trans (subset_length (firsts_nodup _) fun x hx => mem_firsts.mp hx) ?_
      rw [List.length_take]
      omega
    by_cases hin : Ts[i] ∈ firsts (Ts.take i)
    · rw [decide_eq_true hin]
      refine iteF ⟨_, ys, by omega, rfl, s2, hl, ?_, ?_⟩
      · rw [etk, firsts_snoc, addF, if_pos hin]
        exact hyl
      · rw [etk, firsts_snoc, addF, if_pos hin]
        exact hy
    · rw [decide_eq_false hin]
      refine iteT ⟨_, rfl, .inl ⟨rfl, _, SqL.of hl⟩, _, rfl, l, _, _, rfl, rfl, hl, small1000 (by omega), ?_⟩
      refine ⟨_, ys ++ [x], by omega, rfl, fun b o e => ?_, upd_same, ?_, fun j v t h1 h2 => ?_⟩
      · rw [upd_ne (ne_of_none e nl)]
        exact s2 _ _ e
      · rw [etk, firsts_snoc, addF, if_neg hin, List.length_append, List.length_append, hyl]
        rfl
      · rw [etk, firsts_snoc, addF, if_neg hin] at h2
        by_cases hj : j < ys.length
        · rw [List.getElem?_append_left hj] at h1
          rw [List.getElem?_append_left (by omega)] at h2
          exact hy j v t h1 h2
        · rw [List.getElem?_append_right (by omega)] at h1 h2
          have hz : j - ys.length = 0 := by
            have := (List.getElem?_eq_some_iff.mp h1).1
            simp at this
            omega
          rw [hz] at h1
          have hz2 : j - (firsts (Ts.take i)).length = 0 := by omega
          rw [hz2] at h2
          obtain rfl : x = v := by simpa using h1
          obtain rfl : Ts[i] = t := by simpa using h2
          exact ⟨i, hx, hT⟩
  rintro σ H1 ⟨v2, ys, hi, rfl, s2, hl, hyl, hy⟩
  rw [hxl, List.take_length] at hyl hy
  have hfl : (firsts Ts).length ≤ Ts.length := subset_length (firsts_nodup _) fun x hx => mem_firsts.mp hx
  have hl1 := s2 _ _ ha
  refine ⟨_, rfl, a, rfl, ⟨_, SqL.of hl1⟩, fun D nD => ?_⟩
  refine lc_map (walk_list (K := K) (a := a) (xs := xs)) nD (fun i => nV ((clsOf Ts).getD i 0)) (by rw [hxl]; exact small1000 (by omega)) (fun H2 s3 => SqL.of (s3 _ _ hl1)) ?_ ?_
  · rintro i x H2 H3 hi s3 ⟨rfl, hx⟩ R hR
    rw [hxl] at hi
    have hT : Ts[i]? = some Ts[i] := List.getElem?_eq_getElem hi
    have hm : Ts[i] ∈ firsts Ts := mem_firsts.mpr (List.getElem_mem hi)
    have hix := List.idxOf_lt_length_of_mem hm
    have eg : (clsOf Ts).getD i 0 = (firsts Ts).idxOf Ts[i] := by
      unfold clsOf
      rw [List.getD_eq_getElem?_getD, List.getElem?_map, hT]
      rfl
    rw [eg] at hR
    have s23 := s2.trans s3
    have dpF : Dp K H3 (.ref l) (.list ((firsts Ts).map dv)) := .lst (SqL.of (s3 _ _ hl)) (dpAll_of dv ys _ hyl fun j v t h1 h2 => by
      obtain ⟨k, h3, h4⟩ := hy j v t h1 h2
      exact dp H3 s23 k v t h3 h4)
    refine ⟨rfl, _, rfl, .inl ⟨rfl, _, SqL.of (s3 _ _ hl)⟩, _, rfl, l, x, dv Ts[i], (firsts Ts).map dv, (firsts Ts).idxOf Ts[i], dv Ts[i], rfl, rfl, dpF, dp H3 s23 i x _ hx hT, shaped_list dv _ fun t ht => sm t (mem_firsts.mp ht), (sm _ (List.getElem_mem hi)).sh, ?_, ?_, fun m z hm' hz => ?_, hR H3 (Same.refl _)⟩
    · rw [List.getElem?_map, List.getElem?_eq_getElem hix, List.getElem_idxOf hix]
      rfl
    · rw [eqv]
      exact decide_eq_true rfl
    · rw [List.getElem?_map] at hz
      have hml : m < (firsts Ts).length := by omega
      rw [List.getElem?_eq_getElem hml] at hz
      obtain rfl := Option.some.inj hz
      rw [eqv]
      refine decide_eq_false fun e => ?_
      have e2 := (firsts_nodup Ts).idxOf_getElem m hml
      rw [e] at e2
      omega
  · intro H2 s3 e2
    refine q D H2 (s2.trans s3) (s2.free nD) ?_
    rw [e2, hxl]
    congr 2
    have hcl : (clsOf Ts).length = Ts.length := (clsOf_ok Ts).len
    rw [← hcl]
    exact map_range_get (clsOf Ts) _ nV fun i x hx => by rw [List.getD_eq_getElem?_getD, hx, Option.getD_some]
end
end Own
namespace Own
/-- a table before it is lessened -/
structure BOk (T : Tab) (k n : Nat) : Prop where
  k1 : 1 ≤ k
  k3 : k ≤ 3
  n1 : 1 ≤ n
  n40 : n ≤ 40
  rl : T.rows.length = n
  el : T.ends.length = n
  row : ∀ r, r ∈ T.rows → r.length = k ∧ ∀ x, x ∈ r → x < n
def kd (R : List Nat) (s : Nat) : Nat := R.getD s 0
theorem kd_get {R : List Nat} {s : Nat} (h : s < R.length) : R[s]? = some (kd R s) := by
  unfold kd
  rw [List.getD_eq_getElem?_getD, List.getElem?_eq_getElem h, Option.getD_some]
section
variable {B : Tab} {k N : Nat}
theorem BOk.rowget (O : BOk B k N) {s : Nat} (hs : s < N) : (B.rows.getD s []).length = k ∧ B.rows[s]? = some (B.rows.getD s []) := by
  have h1 : s < B.rows.length := by rw [O.rl]; exact hs
  have e1 : B.rows.getD s [] = B.rows[s] := by rw [List.getD_eq_getElem?_getD, List.getElem?_eq_getElem h1, Option.getD_some]
  rw [e1]
  exact ⟨(O.row _ (List.getElem_mem h1)).1, List.getElem?_eq_getElem h1⟩
theorem BOk.stget (O : BOk B k N) {s l : Nat} (hs : s < N) (hl : l < k) : (B.rows.getD s [])[l]? = some (B.st s l) := by
  have h := (O.rowget hs).1
  have h2 : l < (B.rows.getD s []).length := by omega
  unfold Tab.st
  rw [List.getD_eq_getElem?_getD (l := B.rows.getD s []), List.getElem?_eq_getElem h2, Option.getD_some]
theorem BOk.st_lt (O : BOk B k N) {s l : Nat} (hs : s < N) (hl : l < k) : B.st s l < N := by
  have h1 : s < B.rows.length := by rw [O.rl]; exact hs
  have h := O.stget hs hl
  have e1 : B.rows.getD s [] = B.rows[s] := by rw [List.getD_eq_getElem?_getD, List.getElem?_eq_getElem h1, Option.getD_some]
  exact (O.row _ (List.getElem_mem h1)).2 _ (by rw [← e1]; exact List.mem_of_getElem? h)
/-- what holds of the kinds while they are made finer -/
structure Kinds (B : Tab) (N : Nat) (R : List Nat) : Prop where
  cl : ∃ (α : Type) (Ts : List α), Ts.length = N ∧ Clsf Ts R
  fin : ∀ i j, i < N → j < N → kd R i = kd R j → B.fin i = B.fin j
theorem Kinds.len {R : List Nat} (h : Kinds B N R) : R.length = N := by
  obtain ⟨α, Ts, h1, h2⟩ := h.cl
  rw [h2.len, h1]
/-- the pairs by which the kinds are made finer -/
def pairsOf (B : Tab) (N : Nat) (R : List Nat) : List (Nat × List Nat) := (List.range N).map fun i => (kd R i, (B.rows.getD i []).map (kd R))
theorem Kinds.first (O : BOk B k N) : Kinds B N (clsOf B.ends) := by
  refine ⟨⟨Bool, B.ends, O.el, clsOf_ok _⟩, fun i j hi hj e => ?_⟩
  have C := clsOf_ok B.ends
  have hl : (clsOf B.ends).length = N := by rw [C.len, O.el]
  have h1 : i < B.ends.length := by rw [O.el]; exact hi
  have h2 : j < B.ends.length := by rw [O.el]; exact hj
  have := (C.iff i j _ _ _ _ (List.getElem?_eq_getElem h1) (List.getElem?_eq_getElem h2) (kd_get (by omega)) (kd_get (by omega))).mp e
  unfold Tab.fin
  rw [List.getD_eq_getElem?_getD, List.getElem?_eq_getElem h1, Option.getD_some, List.getD_eq_getElem?_getD, List.getElem?_eq_getElem h2, Option.getD_some]
  exact this
theorem finer_iff (O : BOk B k N) {R : List Nat} {i j : Nat} (hi : i < N) (hj : j < N) : kd (clsOf (pairsOf B N R)) i = kd (clsOf (pairsOf B N R)) j ↔ kd R i = kd R j ∧ ∀ l, l < k → kd R (B.st i l) = kd R (B.st j l) := by
  have C := clsOf_ok (pairsOf B N R)
  have hp : (pairsOf B N R).length = N := by unfold pairsOf; rw [List.length_map, List.length_range]
  have hl : (clsOf (pairsOf B N R)).length = N := by rw [C.len, hp]
  have g : ∀ i, i < N → (pairsOf B N R)[i]? = some (kd R i, (B.rows.getD i []).map (kd R)) := fun i hi => by
    unfold pairsOf
    rw [List.getElem?_map, List.getElem?_range hi]
    rfl
  rw [C.iff i j _ _ _ _ (g i hi) (g j hj) (kd_get (by omega)) (kd_get (by omega)), Prod.mk.injEq]
  refine and_congr Iff.rfl ?_
  constructor
  · intro e l hl
    have h1 := congrArg (·[l]?) e
    simp only [List.getElem?_map, O.stget hi hl, O.stget hj hl, Option.map_some] at h1
    exact Option.some.inj h1
  · intro h
    apply List.ext_getElem?
    intro l
    by_cases hl : l < k
    · rw [List.getElem?_map, List.getElem?_map, O.stget hi hl, O.stget hj hl, Option.map_some, Option.map_some, h l hl]
    · rw [List.getElem?_eq_none (by rw [List.length_map, (O.rowget hi).1]; omega), List.getElem?_eq_none (by rw [List.length_map, (O.rowget hj).1]; omega)]
theorem Kinds.next (O : BOk B k N) {R : List Nat} (h : Kinds B N R) : Kinds B N (clsOf (pairsOf B N R)) :=
  ⟨⟨Nat × List Nat, pairsOf B N R, by unfold pairsOf; rw [List.length_map, List.length_range], clsOf_ok _⟩, fun i j hi hj e => h.fin i j hi hj ((finer_iff O hi hj).mp e).1⟩
/-- where the finer kinds are no more, the kinds go along letters -/
theorem Kinds.stop (O : BOk B k N) {R : List Nat} (h : Kinds B N R) {M : Nat} (m1 : M ∈ R) (m2 : ∀ x, x ∈ R → x ≤ M) (m3 : M ∈ clsOf (pairsOf B N R)) (m4 : ∀ x, x ∈ clsOf (pairsOf B N R) → x ≤ M) :
    ∀ i j l, i < N → j < N → l < k → kd R i = kd R j → kd R (B.st i l) = kd R (B.st j l) := by
  intro i j l hi hj hl e
  obtain ⟨α, Ts, hT, C⟩ := h.cl
  have C2 := clsOf_ok (pairsOf B N R)
  have hp : (pairsOf B N R).length = N := by unfold pairsOf; rw [List.length_map, List.length_range]
  have hRl : R.length = N := h.len
  have hSl : (clsOf (pairsOf B N R)).length = N := by rw [C2.len, hp]
  have z := same_kinds C C2 (by rw [hp, hT]) M m1 m2 m3 m4 (fun i j ri rj si sj h1 h2 h3 h4 e => by
    have hi : i < N := by
      have := (List.getElem?_eq_some_iff.mp h1).1
      omega
    have hj : j < N := by
      have := (List.getElem?_eq_some_iff.mp h2).1
      omega
    rw [kd_get (by omega)] at h1 h2 h3 h4
    obtain rfl := Option.some.inj h1
    obtain rfl := Option.some.inj h2
    obtain rfl := Option.some.inj h3
    obtain rfl := Option.some.inj h4
    exact ((finer_iff O hi hj).mp e).1) i j _ _ _ _ (kd_get (by omega)) (kd_get (by omega)) (kd_get (by omega)) (kd_get (by omega)) e
  exact ((finer_iff O hi hj).mp z).2 l hl
/-- otherwise they are more -/
theorem Kinds.grow (O : BOk B k N) {R : List Nat} (h : Kinds B N R) {M M' : Nat} (m1 : M ∈ R) (m2 : ∀ x, x ∈ R → x ≤ M) (m3 : M' ∈ clsOf (pairsOf B N R)) (m4 : ∀ x, x ∈ clsOf (pairsOf B N R) → x ≤ M') : M ≤ M' := by
  obtain ⟨α, Ts, hT, C⟩ := h.cl
  have C2 := clsOf_ok (pairsOf B N R)
  have hp : (pairsOf B N R).length = N := by unfold pairsOf; rw [List.length_map, List.length_range]
  have hRl : R.length = N := h.len
  have hSl : (clsOf (pairsOf B N R)).length = N := by rw [C2.len, hp]
  let f : Nat → Nat := fun s => kd R ((clsOf (pairsOf B N R)).idxOf s)
  have key : ∀ x, x ∈ List.range (M + 1) → x ∈ (List.range (M' + 1)).map f := by
    intro x hx
    obtain ⟨i, hi⟩ := List.getElem?_of_mem (C.onto x M m1 (by have := List.mem_range.mp hx; omega))
    have hil : i < N := by
      have := (List.getElem?_eq_some_iff.mp hi).1
      omega
    rw [kd_get (by omega)] at hi
    obtain rfl := Option.some.inj hi
    have hs := kd_get (R := clsOf (pairsOf B N R)) (s := i) (by omega)
    have hm := List.mem_of_getElem? hs
    have hix := List.idxOf_lt_length_of_mem hm
    refine List.mem_map.mpr ⟨kd (clsOf (pairsOf B N R)) i, List.mem_range.mpr (by have := m4 _ hm; omega), ?_⟩
    have hg : (clsOf (pairsOf B N R))[(clsOf (pairsOf B N R)).idxOf (kd (clsOf (pairsOf B N R)) i)]? = some (kd (clsOf (pairsOf B N R)) i) := by rw [List.getElem?_eq_getElem hix, List.getElem_idxOf hix]
    rw [kd_get hix] at hg
    exact ((finer_iff O (by omega) hil).mp (Option.some.inj hg)).1
  have := subset_length List.nodup_range key
  rw [List.length_map, List.length_range, List.length_range] at this
  omega
/-- the order in which one stand of each kind is found -/
structure Order (B : Tab) (k N : Nat) (R : List Nat) (O : List Nat) (c : Nat → Nat → Prop) : Prop where
  z : O[0]? = some 0
  lt : ∀ s, s ∈ O → s < N
  nd : (O.map (kd R)).Nodup
  par : ∀ (i s : Nat), 0 < i → O[i]? = some s → ∃ j t, j < i ∧ O[j]? = some t ∧ ∃ l, l < k ∧ B.st t l = s
  clo : ∀ (i s l : Nat), c i l → O[i]? = some s → kd R (B.st s l) ∈ O.map (kd R)
theorem Order.len {R O : List Nat} {c : Nat → Nat → Prop} (h : Order B k N R O c) : O.length ≤ N := by
  have nd2 : O.Nodup := List.pairwise_map.mp h.nd |>.imp fun h e => h (by rw [e])
  exact nodup_lt_length N nd2 h.lt
/-- the lesser table -/
def lessT (B : Tab) (R O : List Nat) : Tab := ⟨O.map fun s => (B.rows.getD s []).map fun t => (O.map (kd R)).idxOf (kd R t), O.map B.fin⟩
section
variable {R O : List Nat}
theorem lessT_st (OB : BOk B k N) (h : Order B k N R O fun i l => i < O.length ∧ l < k) {i l s : Nat} (hi : O[i]? = some s) (hl : l < k) : (lessT B R O).st i l = (O.map (kd R)).idxOf (kd R (B.st s l)) := by
  have hs := h.lt s (List.mem_of_getElem? hi)
  have e1 : (lessT B R O).rows.getD i [] = (B.rows.getD s []).map fun t => (O.map (kd R)).idxOf (kd R t) := by
    unfold lessT
    rw [List.getD_eq_getElem?_getD, List.getElem?_map, hi]
    rfl
  unfold Tab.st
  rw [e1, List.getD_eq_getElem?_getD, List.getElem?_map]
  have := OB.stget hs hl
  rw [this]
  rfl
theorem lessT_fin {i s : Nat} (hi : O[i]? = some s) : (lessT B R O).fin i = B.fin s := by
  unfold Tab.fin lessT
  rw [List.getD_eq_getElem?_getD, List.getElem?_map, hi]
  rfl
theorem Order.ix (h : Order B k N R O fun i l => i < O.length ∧ l < k) {i l s : Nat} (hi : O[i]? = some s) (hl : l < k) : ∃ s', O[(O.map (kd R)).idxOf (kd R (B.st s l))]? = some s' ∧ kd R s' = kd R (B.st s l) := by
  have hil : i < O.length := (List.getElem?_eq_some_iff.mp hi).1
  have hm := h.clo i s l ⟨hil, hl⟩ hi
  have hix := List.idxOf_lt_length_of_mem hm
  have hg : (O.map (kd R))[(O.map (kd R)).idxOf (kd R (B.st s l))]? = some (kd R (B.st s l)) := by rw [List.getElem?_eq_getElem hix, List.getElem_idxOf hix]
  rw [List.getElem?_map] at hg
  cases e : O[(O.map (kd R)).idxOf (kd R (B.st s l))]? with
  | none =>
    rw [e] at hg
    cases hg
  | some s' =>
    rw [e] at hg
    exact ⟨s', rfl, Option.some.inj hg⟩
theorem lessT_acc (OB : BOk B k N) (hK : Kinds B N R) (hc : ∀ i j l, i < N → j < N → l < k → kd R i = kd R j → kd R (B.st i l) = kd R (B.st j l)) (h : Order B k N R O fun i l => i < O.length ∧ l < k) :
    ∀ (w : Word) (s i t : Nat), Wd k w → s < N → O[i]? = some t → kd R s = kd R t → (lessT B R O).acc i w = B.acc s w
  | [], s, i, t, _, hs, hi, e => by
    show (lessT B R O).fin i = B.fin s
    rw [lessT_fin hi]
    exact (hK.fin s t hs (h.lt t (List.mem_of_getElem? hi)) e).symm
  | l :: w, s, i, t, hw, hs, hi, e => by
    have hl : l < k := hw l List.mem_cons_self
    have ht := h.lt t (List.mem_of_getElem? hi)
    obtain ⟨s', h1, h2⟩ := h.ix hi hl
    have ih := lessT_acc OB hK hc h w (B.st s l) _ s' (fun x hx => hw x (List.mem_cons_of_mem _ hx)) (OB.st_lt hs hl) h1 ((hc s t l hs ht hl e).trans h2.symm)
    show (lessT B R O).acc ((lessT B R O).st i l) w = B.acc (B.st s l) w
    rw [lessT_st OB h hi hl]
    exact ih
theorem lessT_ok (OB : BOk B k N) (h : Order B k N R O fun i l => i < O.length ∧ l < k) : (lessT B R O).Ok k O.length := by
  have hz := (List.getElem?_eq_some_iff.mp h.z).1
  refine ⟨OB.k1, OB.k3, hz, Nat.le_trans h.len OB.n40, List.length_map _, List.length_map _, fun r hr => ?_, fun i h0 hi => ?_⟩
  · obtain ⟨s, hs, rfl⟩ := List.mem_map.mp hr
    have hsN := h.lt s hs
    obtain ⟨i, hi⟩ := List.getElem?_of_mem hs
    refine ⟨by rw [List.length_map]; exact (OB.rowget hsN).1, fun x hx => ?_⟩
    obtain ⟨t, ht, rfl⟩ := List.mem_map.mp hx
    obtain ⟨l, hl⟩ := List.getElem?_of_mem ht
    have hlk : l < k := by
      have := (List.getElem?_eq_some_iff.mp hl).1
      rw [(OB.rowget hsN).1] at this
      exact this
    rw [OB.stget hsN hlk] at hl
    obtain rfl := Option.some.inj hl
    have hil : i < O.length := (List.getElem?_eq_some_iff.mp hi).1
    have := List.idxOf_lt_length_of_mem (h.clo i s l ⟨hil, hlk⟩ hi)
    rwa [List.length_map] at this
  · have hg : O[i]? = some O[i] := List.getElem?_eq_getElem hi
    obtain ⟨j, t, hj, ht, l, hl, e⟩ := h.par i _ h0 hg
    refine ⟨j, hj, l, hl, ?_⟩
    rw [lessT_st OB h ht hl, e]
    have hi2 : i < (O.map (kd R)).length := by rw [List.length_map]; exact hi
    have e2 : (O.map (kd R))[i] = kd R O[i] := List.getElem_map _
    rw [← e2]
    exact h.nd.idxOf_getElem i hi2
end
end
end Own
namespace Own
open PySem PySem.Spec PyProof.Rows L2
/-- data: pairs of a number and a list of numbers -/
def dPr (z : Nat × List Nat) : PyData := .tuple [.int (z.1 : Nat), dIs z.2]
theorem eqv_dPr (x y : Nat × List Nat) : PyData.eqv (dPr x) (dPr y) = decide (x = y) := by
  unfold dPr
  rw [PyData.eqv, PyData.eqvAll, PyData.eqvAll, PyData.eqvAll, eqv_dI, eqv_dIs]
  obtain ⟨a, b⟩ := x
  obtain ⟨c, d⟩ := y
  rw [Bool.and_true, Bool.eq_iff_iff, Bool.and_eq_true, decide_eq_true_iff, decide_eq_true_iff, decide_eq_true_iff, Prod.mk.injEq]
theorem smD_dPr (x : Nat × List Nat) : SmD (dPr x) := by
  unfold dPr
  refine ⟨?_, ?_⟩
  · simp only [PyData.canLay0, PyData.canLayAll0, canLay_dIs, Bool.and_true]
  · have := depth_dIs x.2
    simp only [PyData.depth, PyData.depthAll]
    omega
theorem eqv_bool (x y : Bool) : PyData.eqv (.bool x) (.bool y) = decide (x = y) := by cases x <;> cases y <;> rfl
theorem smD_bool (x : Bool) : SmD (.bool x) := ⟨by simp [PyData.canLay0], by simp [PyData.depth]⟩
theorem max_some {R : List Nat} (h : 0 < R.length) {m : Int} (h1 : m ∈ R.map fun i => ((i : Nat) : Int)) (h2 : ∀ y, y ∈ R.map (fun i => ((i : Nat) : Int)) → y ≤ m) : ∃ M : Nat, m = (M : Int) ∧ M ∈ R ∧ ∀ x, x ∈ R → x ≤ M := by
  obtain ⟨M, hM, rfl⟩ := List.mem_map.mp h1
  refine ⟨M, rfl, hM, fun x hx => ?_⟩
  have := h2 _ (List.mem_map.mpr ⟨x, hx, rfl⟩)
  omega
theorem Order.add {B : Tab} {k N : Nat} {R O : List Nat} {c : Nat → Nat → Prop} (h : Order B k N R O c) (hc : ∀ i l, c i l → i < O.length) {at' t l s : Nat} (ht : O[at']? = some t) (hl : l < k) (hs : B.st t l = s) (hsN : s < N) (hn : kd R s ∉ O.map (kd R)) : Order B k N R (O ++ [s]) c := by
  have hat : at' < O.length := (List.getElem?_eq_some_iff.mp ht).1
  refine ⟨?_, fun x hx => ?_, ?_, fun i x h0 hi => ?_, fun i x m hci hi => ?_⟩
  · have := (List.getElem?_eq_some_iff.mp h.z).1
    rw [List.getElem?_append_left this]
    exact h.z
  · rcases List.mem_append.mp hx with q | q
    · exact h.lt x q
    · rw [List.mem_singleton.mp q]
      exact hsN
  · rw [List.map_append]
    exact nodup_snoc h.nd hn
  · by_cases hil : i < O.length
    · rw [List.getElem?_append_left hil] at hi
      obtain ⟨j, t', hj, ht', q⟩ := h.par i x h0 hi
      exact ⟨j, t', hj, by rw [List.getElem?_append_left (by omega)]; exact ht', q⟩
    · rw [List.getElem?_append_right (by omega)] at hi
      have hz : i - O.length = 0 := by
        have := (List.getElem?_eq_some_iff.mp hi).1
        simp at this
        omega
      rw [hz] at hi
      obtain rfl : s = x := by simpa using hi
      exact ⟨at', t, by omega, by rw [List.getElem?_append_left hat]; exact ht, l, hl, hs⟩
  · have hil := hc i m hci
    rw [List.getElem?_append_left hil] at hi
    rw [List.map_append]
    exact List.mem_append_left _ (h.clo i x m hci hi)
theorem Order.mono {B : Tab} {k N : Nat} {R O : List Nat} {c c' : Nat → Nat → Prop} (h : Order B k N R O c) (e : ∀ i l, c' i l → c i l) : Order B k N R O c' := ⟨h.z, h.lt, h.nd, h.par, fun i s l hc hi => h.clo i s l (e i l hc) hi⟩
theorem Order.ext {B : Tab} {k N : Nat} {R O : List Nat} {c c' : Nat → Nat → Prop} (h : Order B k N R O c) {at' t l0 : Nat} (ht : O[at']? = some t) (hm : kd R (B.st t l0) ∈ O.map (kd R)) (e : ∀ i l, c' i l → c i l ∨ (i = at' ∧ l = l0)) : Order B k N R O c' := by
  refine ⟨h.z, h.lt, h.nd, h.par, fun i s l hc hi => ?_⟩
  rcases e i l hc with q | ⟨rfl, rfl⟩
  · exact h.clo i s l q hi
  · rw [ht] at hi
    obtain rfl := Option.some.inj hi
    exact hm
theorem max_ex : ∀ R : List Nat, 0 < R.length → ∃ M, M ∈ R ∧ ∀ x, x ∈ R → x ≤ M
  | [], h => by simp at h
  | [a], _ => ⟨a, by simp, fun x hx => by rw [List.mem_singleton.mp hx]; exact Nat.le_refl _⟩
  | a :: b :: r, _ => by
    obtain ⟨M, h1, h2⟩ := max_ex (b :: r) (by simp)
    by_cases h : a ≤ M
    · exact ⟨M, List.mem_cons_of_mem _ h1, fun x hx => by
        rcases List.mem_cons.mp hx with rfl | hx
        · exact h
        · exact h2 x hx⟩
    · exact ⟨a, List.mem_cons_self, fun x hx => by
        rcases List.mem_cons.mp hx with rfl | hx
        · exact Nat.le_refl _
        · have := h2 x hx
          omega⟩
theorem Kinds.max_lt {B : Tab} {N : Nat} {R : List Nat} (h : Kinds B N R) {M : Nat} (m1 : M ∈ R) : M < N := by
  obtain ⟨α, Ts, h1, C⟩ := h.cl
  have := subset_length (l := List.range (M + 1)) List.nodup_range fun x hx => C.onto x M m1 (by have := List.mem_range.mp hx; omega)
  rw [List.length_range, h.len] at this
  omega
/-- lists of rows in the heap -/
def RowsL (H : Hp) (r : Addr) (rows : List (List Nat)) : Prop := ∃ rs : List Addr, H r = some (.lst (rs.map V.ref)) ∧ rs.length = rows.length ∧ ∀ (i : Nat) (a : Addr) (row : List Nat), rs[i]? = some a → rows[i]? = some row → H a = some (.lst (row.map nV))
theorem RowsL.same {H H' : Hp} {r : Addr} {rows : List (List Nat)} (h : RowsL H r rows) (e : Same H H') : RowsL H' r rows := by
  obtain ⟨rs, h1, h2, h3⟩ := h
  exact ⟨rs, e _ _ h1, h2, fun i a row k1 k2 => e _ _ (h3 i a row k1 k2)⟩
theorem RowsL.get {H : Hp} {r : Addr} {B : Tab} {k N s : Nat} (h : RowsL H r B.rows) (O : BOk B k N) (hs : s < N) : ∃ (rs : List Addr) (a : Addr), H r = some (.lst (rs.map V.ref)) ∧ rs.length = N ∧ (rs.map V.ref)[s]? = some (.ref a) ∧ H a = some (.lst ((B.rows.getD s []).map nV)) := by
  obtain ⟨rs, h1, h2, h3⟩ := h
  have hl : rs.length = N := by rw [h2, O.rl]
  have hsl : s < rs.length := by omega
  refine ⟨rs, rs[s], h1, hl, by rw [List.getElem?_map, List.getElem?_eq_getElem hsl]; rfl, h3 s _ _ (List.getElem?_eq_getElem hsl) (O.rowget hs).2⟩
theorem at_kd {R : List Nat} {s : Nat} (h : s < R.length) : atI (R.map nV) ((s : Nat) : Int) = some (nV (kd R s)) := by
  refine atI_nat ?_
  rw [List.getElem?_map, kd_get h]
  rfl
theorem at_fin0 {B : Tab} {k N s : Nat} (O : BOk B k N) (hs : s < N) : atI (B.ends.map V.bl) ((s : Nat) : Int) = some (.bl (B.fin s)) := by
  have h2 : s < B.ends.length := by
    rw [O.el]
    exact hs
  refine atI_nat ?_
  rw [List.getElem?_map, List.getElem?_eq_getElem h2]
  unfold Tab.fin
  rw [List.getD_eq_getElem?_getD, List.getElem?_eq_getElem h2]
  rfl
section
variable {P : Program} {w : World} {K : PySem.W.Frag} {mg : Str → Option Value} {base : Heap}
abbrev s_law_least : Stmt := topS 65
theorem sc_law_least : FnScope ["rows", "marks", "kinds", "finer", "order", "at", "there", "names", "late", "one", "row"] ["rows", "marks"] (defScope s_law_least) := ⟨rfl, rfl, rfl, by decide +kernel, rfl, by decide +kernel, by decide +kernel⟩
def sp_law_least (K : PySem.W.Frag) : Sp := fun vs H Q _ => ∃ (r mk : Addr) (B : Tab) (k N : Nat), vs = [.ref r, .ref mk] ∧ RowsL H r B.rows ∧ H mk = some (.lst (B.ends.map V.bl)) ∧ BOk B k N ∧
  ∀ (t r' e' : Addr) (T : Tab) (n : Nat) (H' : Hp), Same H H' → T.Ok k n → (∀ w, Wd k w → T.acc 0 w = B.acc 0 w) → TabAt K H' t r' e' T → Q (.ref t) H'
theorem ok_law_least {f : Addr} {fd : FuncData} (F : Fun K "_law_least" "_law_least" s_law_least f fd) (B0 : Bt mg) (C_law_classes : Got P w K mg base CX0 1 "_law_classes" ["things"] (sp_law_classes K)) : FnOk P w K mg base CX0 2 f fd ["rows", "marks"] (sp_law_least K) := by
  refine F.ok sc_law_least (fun vs H Q E h => ?_) (fun cdv A outer s0 H vs Q E hr h => ?_)
  · obtain ⟨r, mk, B, k, N, rfl, _⟩ := h
    rfl
  obtain ⟨r, mk, B, k, N, rfl, hR, hM, O, q⟩ := h
  have hn40 := O.n40
  have hn1 := O.n1
  have hk3 := O.k3
  have two : ∀ n, n ≤ 10 → n ≤ sizeLine := fun n h => Nat.le_of_lt (small1000 (by omega))
  refine ⟨_, (pss_cons (ps_set (i := 2) sc_law_least.nd rfl (Or.inr rfl) (C_law_classes.call hr (by rfl) (pa_cons (pv 1) pa_nil))) (pss_cons (ps_while PassesOwn.never (pt_val pe_bl) (pss_cons (ps_set (i := 3) sc_law_least.nd rfl (Or.inl rfl) (C_law_classes.call hr (by rfl) (pa_cons (pe_lc (own := [("at", 5), ("row", 10)]) rfl sc_law_least.nd (pi_enum (by rfl) B0.enumerate (pa_cons (pv 0) pa_nil)) (blkOk_by (by kernel_rfl)) (fun _ _ _ _ _ => (g_tup K 2 (pgs_cons (pg_name (i := 5) sc_law_least.nd rfl (Or.inl rfl)) (pgs_cons (pg_name (i := 10) sc_law_least.nd rfl (Or.inl rfl)) pgs_nil)))) (fun _ _ _ _ _ => pts_nil) (fun _ _ _ _ _ => (pe_tup (pa_cons (p_ixl K (pv 2) (pv 5)) (pa_cons (pe_lc (own := [("there", 6)]) rfl sc_law_least.nd (p_list K (pv 10)) (blkOk_by (by kernel_rfl)) (fun _ _ _ _ _ => (pg_name (i := 6) sc_law_least.nd rfl (Or.inl rfl))) (fun _ _ _ _ _ => pts_nil) (fun _ _ _ _ _ => (p_ixl K (pv 2) (pv 6)))) pa_nil))))) pa_nil))) (pss_cons (ps_if (pt_cmpR op_eq (pe_callB (c_max K) (by rfl) B0.max bt_max (pa_cons (pv 3) pa_nil)) (pe_callB (c_max K) (by rfl) B0.max bt_max (pa_cons (pv 2) pa_nil)) (nomark _)) (pss_one ps_break) pss_nil) (pss_one (ps_set (i := 2) sc_law_least.nd rfl (Or.inr rfl) (pv 3)))))) (pss_cons (ps_par (i := 4) (j := 5) rfl sc_law_least.nd rfl rfl (by decide) rfl rfl (pa_cons (pe_lst (pa_cons pe_int pa_nil)) (pa_cons pe_int pa_nil)) (by rfl)) (pss_cons (ps_while PassesOwn.never (pt_cmpR op_lt (pv 5) (pe_callB (c_len K) (by rfl) B0.len bt_len (pa_cons (pv 4) pa_nil)) (nomark _)) (pss_cons (ps_for PassesOwn.never rfl (p_list K (p_ixl K (pv 0) (p_ixl K (pv 4) (pv 5)))) (pg_name (i := 6) sc_law_least.nd rfl (Or.inl rfl)) (pss_one (ps_if (t_nin K (p_ixl K (pv 2) (pv 6)) (pe_lc (own := [("one", 9)]) rfl sc_law_least.nd (p_list K (pv 4)) (blkOk_by (by kernel_rfl)) (fun _ _ _ _ _ => (pg_name (i := 9) sc_law_least.nd rfl (Or.inl rfl))) (fun _ _ _ _ _ => pts_nil) (fun _ _ _ _ _ => (p_ixl K (pv 2) (pv 9))))) (pss_one (ps_expr (p_app K (pv 4) (pa_cons (pv 6) pa_nil)))) pss_nil))) (pss_one (ps_set (i := 5) sc_law_least.nd rfl (Or.inl rfl) (pe_op op_add (pv 5) pe_int))))) (pss_cons (ps_set (i := 7) sc_law_least.nd rfl (Or.inr rfl) (pe_lc (own := [("one", 9)]) rfl sc_law_least.nd (p_list K (pv 4)) (blkOk_by (by kernel_rfl)) (fun _ _ _ _ _ => (pg_name (i := 9) sc_law_least.nd rfl (Or.inl rfl))) (fun _ _ _ _ _ => pts_nil) (fun _ _ _ _ _ => (p_ixl K (pv 2) (pv 9))))) (pss_cons (ps_set (i := 8) sc_law_least.nd rfl (Or.inl rfl) (pe_callTy (c_tup K) (by rfl) B0.tuple bt_tuple (pa_cons (pe_lc (own := [("one", 9)]) rfl sc_law_least.nd (p_list K (pv 4)) (blkOk_by (by kernel_rfl)) (fun _ _ _ _ _ => (pg_name (i := 9) sc_law_least.nd rfl (Or.inl rfl))) (fun _ _ _ _ _ => pts_nil) (fun _ _ _ _ _ => (pe_callTy (c_tup K) (by rfl) B0.tuple bt_tuple (pa_cons (pe_lc (own := [("there", 6)]) rfl sc_law_least.nd (p_list K (p_ixl K (pv 0) (pv 9))) (blkOk_by (by kernel_rfl)) (fun _ _ _ _ _ => (pg_name (i := 6) sc_law_least.nd rfl (Or.inl rfl))) (fun _ _ _ _ _ => pts_nil) (fun _ _ _ _ _ => (p_lix K (pv 7) (pa_cons (p_ixl K (pv 2) (pv 6)) pa_nil)))) pa_nil)))) pa_nil))) (pss_one (ps_ret (pe_tup (pa_cons (pv 8) (pa_cons (pe_callTy (c_tup K) (by rfl) B0.tuple bt_tuple (pa_cons (pe_lc (own := [("one", 9)]) rfl sc_law_least.nd (p_list K (pv 4)) (blkOk_by (by kernel_rfl)) (fun _ _ _ _ _ => (pg_name (i := 9) sc_law_least.nd rfl (Or.inl rfl))) (fun _ _ _ _ _ => pts_nil) (fun _ _ _ _ _ => (p_ixl K (pv 1) (pv 9)))) pa_nil)) pa_nil))))))))))), ?_⟩
  refine ⟨_, rfl, Bool, inferInstance, PyData.bool, mk, B.ends.map V.bl, B.ends, rfl, hM, List.length_map _, by rw [O.el]; omega, eqv_bool, fun t _ => smD_bool t, fun H' _ i v t h1 h2 => ?_, fun l1 H1 s1 nl1 hl1 => ?_⟩
  · rw [List.getElem?_map, h2] at h1
    obtain rfl := Option.some.inj h1
    exact .bl t
  have K0 := Kinds.first O
  generalize clsOf B.ends = R1 at hl1 K0
  obtain ⟨M0, hM01, hM02⟩ := max_ex R1 (by rw [K0.len]; omega)
  refine ⟨fun m σ H2 => ∃ (l2 : Addr) (R : List Nat) (v3 : Option V) (M : Nat), m = N - M ∧ σ = [some (.ref r), some (.ref mk), some (.ref l2), v3, none, none, none, none, none, none, none] ∧ Same H H2 ∧ H2 l2 = some (.lst (R.map nV)) ∧ Kinds B N R ∧ M ∈ R ∧ ∀ x, x ∈ R → x ≤ M,
    ⟨_, l1, R1, none, M0, rfl, rfl, s1, hl1, K0, hM01, hM02⟩, ?_⟩
  rintro m σ H2 ⟨l2, R, v3, M, hm, rfl, s2, hl2, hK, hM1, hM2⟩
  refine ⟨true, rfl, iteT ⟨_, fun _ _ h => h, ?_⟩⟩
  obtain ⟨rs, hrs, hrsl, hrow⟩ := hR.same s2
  have hrsN : rs.length = N := by rw [hrsl, O.rl]
  have hRl : R.length = N := hK.len
  have hML := hK.max_lt hM1
  refine ⟨_, rfl, r, rs.map V.ref, rfl, SqL.of hrs, fun D nD => ?_⟩
  refine lc_it (walk_enum (K := K) (a := r) (xs := rs.map V.ref)) (fun i H3 => ∃ ts : List Addr, ts.length = i ∧ Same H2 H3 ∧ H3 D = some (.lst (ts.map V.ref)) ∧ ∀ (j : Nat) (t : Addr), ts[j]? = some t → ∃ y, y ≠ D ∧ H3 t = some (.tup [nV (kd R j), .ref y]) ∧ H3 y = some (.lst (((B.rows.getD j []).map (kd R)).map nV)))
    ⟨[], rfl, same_new nD _, upd_same, fun j t h => by simp at h⟩ (fun i H3 _ h => ?_) (fun i x H3 H4 hi q0 yl => ?_) (fun H3 q0 => ?_)
  · obtain ⟨_, _, h, _⟩ := h
    exact SqL.of (h _ _ hrs)
  · obtain ⟨ts, htl, s3, hD, hts⟩ := q0
    obtain ⟨Tp, x1, x2, rfl, nT, rfl, f1, f2⟩ := yl
    rw [List.length_map] at hi
    have hiN : i < N := by omega
    obtain rfl : V.int (i : Nat) = x1 := Option.some.inj f1
    have f2 : (rs.map V.ref)[i]? = some x2 := f2
    rw [List.getElem?_map, List.getElem?_eq_getElem hi] at f2
    obtain rfl : V.ref rs[i] = x2 := Option.some.inj f2
    have hrowi := hrow i rs[i] _ (List.getElem?_eq_getElem hi) (O.rowget hiN).2
    have s4 := same_new nT (.tup [V.int (i : Nat), V.ref rs[i]])
    have s34 := s3.trans s4
    have hri := s34 _ _ hrowi
    have hrl := (O.rowget hiN).1
    refine ⟨Tp, _, rfl, SqT.new, rfl, _, _, rfl, _, _, rfl, rfl, rfl, tYes_if ⟨_, rfl, _, rfl, l2, _, _, _, rfl, rfl, SqL.of (s34 _ _ hl2), at_kd (by omega), _, rfl, rs[i], rfl, ⟨_, SqL.of hri⟩, fun D2 nD2 => ?_⟩⟩
    refine lc_map (walk_list (K := K) (a := rs[i]) (xs := (B.rows.getD i []).map nV)) nD2 (fun x => nV (kd R ((B.rows.getD i []).getD x 0))) (by rw [List.length_map]; exact small1000 (by omega)) (fun H5 s5 => SqL.of (s5 _ _ hri)) ?_ ?_
    · rintro x v H5 H6 hx s5 ⟨rfl, hv⟩ Rr hRr
      rw [List.length_map] at hx
      have hxk : x < k := by omega
      rw [List.getElem?_map, O.stget hiN hxk] at hv
      obtain rfl : nV (B.st i x) = v := Option.some.inj hv
      have eg : (B.rows.getD i []).getD x 0 = B.st i x := rfl
      rw [eg] at hRr
      have := O.st_lt hiN hxk
      exact ⟨rfl, _, rfl, _, rfl, l2, _, _, _, rfl, rfl, SqL.of (s5 _ _ (s34 _ _ hl2)), at_kd (by omega), hRr _ (Same.refl _)⟩
    · intro H5 s5 e5
      rw [List.length_map, map_range_get (B.rows.getD i []) _ (fun t => nV (kd R t)) (fun i x hx => by rw [List.getD_eq_getElem?_getD, hx, Option.getD_some])] at e5
      refine ⟨two 2 (by decide), fun tp ntp => ?_⟩
      have hD4 := s4 _ _ hD
      have hD5 := s5 _ _ hD4
      have s6 := same_new ntp (.tup [nV (kd R i), V.ref D2])
      have hD6 := s6 _ _ hD5
      have nDD : D2 ≠ D := (ne_of_none hD4 nD2).symm
      have ntD : tp ≠ D := (ne_of_none hD5 ntp).symm
      refine ⟨_, hD6, by rw [List.length_map]; exact small1000 (by omega), ts ++ [tp], by rw [List.length_append, htl]; rfl, fun b o e => ?_, by rw [upd_same, List.map_append]; rfl, fun j t hj => ?_⟩
      · rw [upd_ne (ne_of_none e nD)]
        exact s6 _ _ (s5 _ _ (s34 _ _ e))
      · by_cases hlt : j < ts.length
        · rw [List.getElem?_append_left hlt] at hj
          obtain ⟨y, k1, k2, k3⟩ := hts j t hj
          refine ⟨y, k1, ?_, ?_⟩
          · rw [upd_ne (ne_of k2 hD fun z => nomatch z)]
            exact s6 _ _ (s5 _ _ (s4 _ _ k2))
          · rw [upd_ne k1]
            exact s6 _ _ (s5 _ _ (s4 _ _ k3))
        · rw [List.getElem?_append_right (by omega)] at hj
          have hz : j - ts.length = 0 := by
            have := (List.getElem?_eq_some_iff.mp hj).1
            simp at this
            omega
          rw [hz] at hj
          obtain rfl : tp = t := by simpa using hj
          have hji : j = i := by omega
          subst hji
          refine ⟨D2, nDD, ?_, ?_⟩
          · rw [upd_ne ntD]
            exact upd_same
          · rw [upd_ne nDD, s6 _ _ e5, List.map_map]
            rfl
  obtain ⟨ts, htl, s3, hD, hts⟩ := q0
  rw [List.length_map] at htl
  have hpl : (pairsOf B N R).length = N := by unfold pairsOf; rw [List.length_map, List.length_range]
  refine ⟨Nat × List Nat, inferInstance, dPr, D, ts.map V.ref, pairsOf B N R, rfl, hD, by rw [List.length_map, hpl]; omega, by omega, eqv_dPr, fun t _ => smD_dPr t, fun H4 s4 i v t h1 h2 => ?_, fun l3 H4 s4 nl3 hl3 => ?_⟩
  · have hil : i < N := by
      have := (List.getElem?_eq_some_iff.mp h2).1
      omega
    unfold pairsOf at h2
    rw [List.getElem?_map, List.getElem?_range hil] at h2
    obtain rfl := Option.some.inj h2
    rw [List.getElem?_map] at h1
    cases e : ts[i]? with
    | none =>
      rw [e] at h1
      cases h1
    | some t =>
      rw [e] at h1
      obtain rfl : V.ref t = v := Option.some.inj h1
      obtain ⟨y, _, k2, k3⟩ := hts i t e
      exact .tup (.inl (.inl (s4 _ _ k2))) (.cons (.int _) (.cons (dp_dIs (SqL.of (s4 _ _ k3))) .nil))
  have s24 := s2.trans (s3.trans s4)
  have hl24 := s4 _ _ (s3 _ _ hl2)
  have K2 := hK.next O
  have hSl : (clsOf (pairsOf B N R)).length = N := K2.len
  refine ⟨_, rfl, l3, (clsOf (pairsOf B N R)).map fun i => ((i : Nat) : Int), rfl, SqL.of (by rw [hl3, List.map_map]; rfl), by rw [List.length_map]; omega, fun m3 h3 h3x => ?_⟩
  refine ⟨_, rfl, l2, R.map fun i => ((i : Nat) : Int), rfl, SqL.of (by rw [hl24, List.map_map]; rfl), by rw [List.length_map]; omega, fun m2 h2 h2x => ?_⟩
  obtain ⟨M3, rfl, hM31, hM32⟩ := max_some (by omega) h3 h3x
  obtain ⟨M2, rfl, hM21, hM22⟩ := max_some (by omega) h2 h2x
  have hMM : M2 = M := Nat.le_antisymm (hM2 _ hM21) (hM22 _ hM1)
  subst hMM
  refine ⟨rfl, _, rfl, ite2 (fun c => ?_) (fun c => ?_)⟩
  rotate_left
  · have c : M3 ≠ M2 := fun z => c (decide_eq_true (by rw [z]))
    have := Kinds.grow O hK hM1 hM2 hM31 hM32
    exact ⟨_, rfl, N - M3, by omega, l3, _, _, M3, rfl, rfl, s24, hl3, K2, hM31, hM32⟩
  have c := V.int.inj (of_decide_eq_true c)
  have hM3 : M3 = M2 := by omega
  subst hM3
  have cong := Kinds.stop O hK hM1 hM2 hM31 hM32
  clear hts hD htl hM31 hM32 hM21 hM22 h2 h2x h3 h3x K2 hSl
  -- order, at = [0], 0
  obtain ⟨rs4, hrs4, hrsl4, hrow4⟩ := hR.same s24
  have hm4 := s24 _ _ hM
  refine ⟨two 1 (by decide), fun lo nlo => ⟨_, _, rfl, ?_⟩⟩
  have s5 := same_new nlo (.lst [nV 0])
  have s25 := s24.trans s5
  have hO0 : Order B k N R [0] (fun i l => i < 0 ∧ l < k) := ⟨rfl, fun x hx => by rw [List.mem_singleton.mp hx]; omega, by simp, fun i x h0 hi => by
    have := (List.getElem?_eq_some_iff.mp hi).1
    simp at this
    omega, fun i x l h => by omega⟩
  have nlo0 : H lo = none := s24.free nlo
  refine ⟨fun m σ H5 => ∃ (at' : Nat) (Od : List Nat) (v6 : Option V), m = N - at' ∧ at' ≤ Od.length ∧ σ = [some (.ref r), some (.ref mk), some (.ref l2), some (.ref l3), some (.ref lo), some (nV at'), v6, none, none, none, none] ∧ Same H H5 ∧ H5 l2 = some (.lst (R.map nV)) ∧ H5 lo = some (.lst (Od.map nV)) ∧ Order B k N R Od fun i l => i < at' ∧ l < k,
    ⟨_, 0, [0], none, rfl, Nat.zero_le _, rfl, s25, s5 _ _ hl24, upd_same, hO0⟩, ?_⟩
  rintro m5 σ H5 ⟨at', Od, v6, hm5, hat, rfl, s50, hl5, hlo, hO⟩
  have hOl := hO.len
  -- a helper: [kinds[one] for one in order]
  have kl : ∀ (H6 : Hp) (D : Addr) (Od : List Nat) (Qd : Hp → Prop) (s3 s4 s5 s6 s7 s8 s9 s10 : Option V), H6 l2 = some (.lst (R.map nV)) → H6 lo = some (.lst (Od.map nV)) → Od.length ≤ N → (∀ s, s ∈ Od → s < N) → H6 D = none → (∀ H7, Same H6 H7 → H7 D = some (.lst ((Od.map (kd R)).map nV)) → Qd H7) →
      ∃ W : Nat → Nat → Hp → Prop, (∃ m, W 0 m (upd H6 D (.lst []))) ∧ ∀ i m H, W i m H → ((Itl K lo).stop i H ∧ Qd H) ∨ ((Itl K lo).go i H ∧ ∃ Nx : Hp → Prop, (∀ H', Nx H' → ∃ m', m' < m ∧ W (i + 1) m' H') ∧ ∀ x H', (Itl K lo).yld i H x H' →
        gName 9 x (wipe [some (.ref r), some (.ref mk), some (.ref l2), s3, s4, s5, s6, s7, s8, s9, s10] [9]) H' fun σ2 H2 => wipe σ2 [9] = wipe [some (.ref r), some (.ref mk), some (.ref l2), s3, s4, s5, s6, s7, s8, s9, s10] [9] ∧ tYes σ2 H2 fun b H3 =>
          if b = true then tOp (rIxL K) (tVar 2) (tVar 9) σ2 H3 fun y H4 => ∃ acc, H4 D = some (.lst acc) ∧ acc.length < sizeLine ∧ Nx (upd H4 D (.lst (acc ++ [y]))) else Nx H3) := by
    intro H6 D Od Qd s3 s4 s5 s6 s7 s8 s9 s10 h1 h2 h3 h4 nD qd
    refine lc_map (walk_list (K := K) (a := lo) (xs := Od.map nV)) nD (fun x => nV (kd R (Od.getD x 0))) (by rw [List.length_map]; exact small1000 (by omega)) (fun H7 s7 => SqL.of (s7 _ _ h2)) ?_ ?_
    · rintro x v H7 H8 hx s7 ⟨rfl, hv⟩ Rr hRr
      rw [List.length_map] at hx
      rw [List.getElem?_map, List.getElem?_eq_getElem hx] at hv
      obtain rfl : nV Od[x] = v := Option.some.inj hv
      have eg : Od.getD x 0 = Od[x] := by rw [List.getD_eq_getElem?_getD, List.getElem?_eq_getElem hx, Option.getD_some]
      rw [eg] at hRr
      have := h4 _ (List.getElem_mem hx)
      exact ⟨rfl, _, rfl, _, rfl, l2, _, _, _, rfl, rfl, SqL.of (s7 _ _ h1), at_kd (by omega), hRr _ (Same.refl _)⟩
    · intro H7 s7 e7
      refine qd H7 s7 ?_
      rw [e7, List.length_map, map_range_get Od _ (fun t => nV (kd R t)) (fun i x hx => by rw [List.getD_eq_getElem?_getD, hx, Option.getD_some]), List.map_map]
      rfl
  refine ⟨_, rfl, _, rfl, lo, _, rfl, .inl (SqL.of hlo), _, _, rfl, rfl, _, rfl, ite2 (fun c => ?_) (fun c => ?_)⟩
  · have c := of_decide_eq_true c
    rw [List.length_map] at c
    have hatl : at' < Od.length := by omega
    have hOat : Od[at']? = some Od[at'] := List.getElem?_eq_getElem hatl
    have hsN := hO.lt _ (List.getElem_mem hatl)
    obtain ⟨rs5, a5, hrs5, hrsl5, hra5, ha5⟩ := (hR.same s50).get O hsN
    have hOatV : atI (Od.map nV) ((at' : Nat) : Int) = some (nV Od[at']) := atI_nat (by rw [List.getElem?_map, hOat]; rfl)
    have nlr : a5 ≠ lo := by
      rintro rfl
      obtain ⟨rsH, aH, hrsH, hrslH, hraH, haH⟩ := hR.get O hsN
      have e1 := s50 _ _ hrsH
      rw [hrs5] at e1
      have e2 : rs5.map V.ref = rsH.map V.ref := HO.lst.inj (Option.some.inj e1)
      rw [e2, hraH] at hra5
      have e3 : aH = a5 := V.ref.inj (Option.some.inj hra5)
      rw [e3, nlo0] at haH
      cases haH
    have hrl := (O.rowget hsN).1
    refine ⟨_, fun _ _ h => h, ?_⟩
    refine ⟨_, rfl, _, rfl, _, rfl, lo, _, _, _, rfl, rfl, SqL.of hlo, hOatV, r, _, _, _, rfl, rfl, SqL.of hrs5, atI_nat hra5, a5, rfl, ⟨_, SqL.of ha5⟩, ?_⟩
    refine for_list (K := K) (a := a5) (xs := (B.rows.getD Od[at'] []).map nV) (fun l σ H6 => ∃ (Od' : List Nat) (v6 : Option V), l ≤ k ∧ at' < Od'.length ∧ Od'[at']? = some Od[at'] ∧ σ = [some (.ref r), some (.ref mk), some (.ref l2), some (.ref l3), some (.ref lo), some (nV at'), v6, none, none, none, none] ∧ But lo H5 H6 ∧ H6 lo = some (.lst (Od'.map nV)) ∧
        Order B k N R Od' fun i l' => (i < at' ∧ l' < k) ∨ (i = at' ∧ l' < l))
      ⟨Od, v6, Nat.zero_le _, hatl, hOat, rfl, But.refl, hlo, hO.mono (fun i l h => by omega)⟩ (fun l σ H6 _ h => ?_) ?_ ?_
    · obtain ⟨_, _, _, _, _, _, b6, _⟩ := h
      exact SqL.of (b6 _ _ nlr ha5)
    · rintro l x σ H6 hx ⟨Od', v6, hlk, hat', hOat', rfl, b6, hlo6, hO'⟩
      have hlk' : l < k := by
        have := (List.getElem?_eq_some_iff.mp hx).1
        rw [List.length_map] at this
        omega
      rw [List.getElem?_map, O.stget hsN hlk'] at hx
      obtain rfl : nV (B.st Od[at'] l) = x := Option.some.inj hx
      have hstN := O.st_lt hsN hlk'
      have nl2 : l2 ≠ lo := ne_of_none hl24 nlo
      have hl26 := b6 _ _ nl2 hl5
      refine ⟨_, rfl, _, rfl, l2, _, _, _, rfl, rfl, SqL.of hl26, at_kd (by omega), _, rfl, lo, rfl, ⟨_, SqL.of hlo6⟩, fun D nD => ?_⟩
      refine kl H6 D Od' _ _ _ _ _ _ _ _ _ hl26 hlo6 hO'.len hO'.lt nD fun H7 s7 e7 => ?_
      refine ⟨D, _, rfl, .inl (SqL.of e7), rfl, flat_nV _, !decide (kd R (B.st Od[at'] l) ∈ Od'.map (kd R)), congrArg (fun z => V.bl (!z)) (inV_nV _ _), ?_⟩
      have hcl : ∀ i l', ((i < at' ∧ l' < k) ∨ (i = at' ∧ l' < l)) → i < Od'.length := fun i l' h => by omega
      have b7 := b6.same s7
      have hlo7 := s7 _ _ hlo6
      by_cases hin : kd R (B.st Od[at'] l) ∈ Od'.map (kd R)
      · rw [decide_eq_true hin]
        exact iteF ⟨Od', _, hlk', hat', hOat', rfl, b7, hlo7, hO'.ext hOat' hin fun i l' h => by omega⟩
      · rw [decide_eq_false hin]
        have hOl' := hO'.len
        refine iteT ⟨_, rfl, .inl ⟨rfl, _, SqL.of hlo7⟩, _, rfl, lo, _, _, rfl, rfl, hlo7, by rw [List.length_map]; exact small1000 (by omega), ?_⟩
        refine ⟨Od' ++ [B.st Od[at'] l], _, hlk', by rw [List.length_append]; omega, by rw [List.getElem?_append_left hat']; exact hOat', rfl, fun b o hb e => ?_, by rw [upd_same, List.map_append]; rfl, ?_⟩
        · rw [upd_ne hb]
          exact b7 _ _ hb e
        · have h1 := hO'.add hcl hOat' hlk' rfl hstN hin
          refine h1.ext (at' := at') (t := Od[at']) (l0 := l) (by rw [List.getElem?_append_left hat']; exact hOat') (by rw [List.map_append]; exact List.mem_append_right _ (List.mem_singleton.mpr rfl)) fun i l' h => by omega
    · rintro σ H6 ⟨Od', v6, _, hat', hOat', rfl, b6, hlo6, hO'⟩
      rw [List.length_map, hrl] at hO'
      have ea : V.int (((at' : Nat) : Int) + 1) = nV (at' + 1) := congrArg V.int (by omega)
      have hO2 := hO'.len
      refine ⟨_, rfl, _, _, rfl, rfl, N - (at' + 1), by omega, at' + 1, Od', v6, rfl, hat', by rw [← ea]; rfl, fun b o e => b6 _ _ (ne_of_none e nlo0) (s50 _ _ e), b6 _ _ (ne_of_none hl24 nlo) hl5, hlo6, hO'.mono fun i l h => by omega⟩
  · have c : ¬ ((at' : Nat) : Int) < ((Od.map nV).length : Nat) := of_decide_eq_false (Bool.eq_false_iff.mpr c)
    rw [List.length_map] at c
    have hatE : at' = Od.length := by omega
    subst hatE
    refine ⟨_, rfl, lo, rfl, ⟨_, SqL.of hlo⟩, fun D7 nD7 => ?_⟩
    refine kl H5 D7 Od _ _ _ _ _ _ _ _ _ hl5 hlo hOl hO.lt nD7 fun H6 s6 e6 => ?_
    have hlo6 := s6 _ _ hlo
    refine ⟨_, rfl, lo, rfl, ⟨_, SqL.of hlo6⟩, fun D8 nD8 => ?_⟩
    refine lc_it (walk_list (K := K) (a := lo) (xs := Od.map nV)) (fun i H7 => ∃ ts : List Addr, ts.length = i ∧ Same H6 H7 ∧ H7 D8 = some (.lst (ts.map V.ref)) ∧ ∀ (j : Nat) (t : Addr) (s : Nat), ts[j]? = some t → Od[j]? = some s → H7 t = some (.tup (((B.rows.getD s []).map fun x => (Od.map (kd R)).idxOf (kd R x)).map nV)))
      ⟨[], rfl, same_new nD8 _, upd_same, fun j t s h => by simp at h⟩ (fun i H7 _ h => ?_) (fun i x H7 H8 hi q0 yl => ?_) (fun H7 q0 => ?_)
    · obtain ⟨_, _, h, _⟩ := h
      exact SqL.of (h _ _ hlo6)
    · obtain ⟨ts, htl, s7, hD8, hts⟩ := q0
      obtain ⟨rfl, hv⟩ := yl
      rw [List.length_map] at hi
      rw [List.getElem?_map, List.getElem?_eq_getElem hi] at hv
      obtain rfl : nV Od[i] = x := Option.some.inj hv
      have hsN := hO.lt _ (List.getElem_mem hi)
      have s07 := (s50.trans s6).trans s7
      obtain ⟨rs5, a5, hrs5, hrsl5, hra5, ha5⟩ := (hR.same s07).get O hsN
      have hrl := (O.rowget hsN).1
      refine ⟨rfl, tYes_if ⟨_, rfl, _, rfl, r, _, _, _, rfl, rfl, SqL.of hrs5, atI_nat hra5, a5, rfl, ⟨_, SqL.of ha5⟩, fun D9 nD9 => ?_⟩⟩
      refine lc_map (walk_list (K := K) (a := a5) (xs := (B.rows.getD Od[i] []).map nV)) nD9 (fun x => nV ((Od.map (kd R)).idxOf (kd R ((B.rows.getD Od[i] []).getD x 0)))) (by rw [List.length_map]; exact small1000 (by omega)) (fun H9 s9 => SqL.of (s9 _ _ ha5)) ?_ ?_
      · rintro x v H9 H10 hx s9 ⟨rfl, hv⟩ Rr hRr
        rw [List.length_map] at hx
        have hxk : x < k := by omega
        rw [List.getElem?_map, O.stget hsN hxk] at hv
        obtain rfl : nV (B.st Od[i] x) = v := Option.some.inj hv
        have eg : (B.rows.getD Od[i] []).getD x 0 = B.st Od[i] x := rfl
        rw [eg] at hRr
        have hstN := O.st_lt hsN hxk
        have hm := hO.clo i _ x ⟨hi, hxk⟩ (List.getElem?_eq_getElem hi)
        have s79 := s7.trans s9
        refine ⟨rfl, _, rfl, .inl ⟨rfl, _, SqL.of (s79 _ _ e6)⟩, _, rfl, _, rfl, l2, _, _, _, rfl, rfl, SqL.of (s79 _ _ (s6 _ _ hl5)), at_kd (by omega), ?_⟩
        refine ⟨D7, (Od.map (kd R)).map nV, nV (kd R (B.st Od[i] x)), (Od.map (kd R)).idxOf (kd R (B.st Od[i] x)), nV (kd R (B.st Od[i] x)), rfl, rfl, SqL.of (s79 _ _ e6), rfl, flat_nV _, at_idx _ nV hm, by simp [eqV, nV], fun m z' hm' hz => ?_, hRr _ (Same.refl _)⟩
        have hix := List.idxOf_lt_length_of_mem hm
        have hml : m < (Od.map (kd R)).length := by omega
        rw [List.getElem?_map, List.getElem?_eq_getElem hml] at hz
        obtain rfl := Option.some.inj hz
        have hne : (Od.map (kd R))[m] ≠ kd R (B.st Od[i] x) := fun e => by
          have e2 := hO.nd.idxOf_getElem m hml
          rw [e] at e2
          omega
        show ((((Od.map (kd R))[m] : Nat) : Int) == ((kd R (B.st Od[i] x) : Nat) : Int)) = false
        exact beq_eq_false_iff_ne.mpr (by omega)
      · intro H9 s9 e9
        rw [List.length_map, map_range_get (B.rows.getD Od[i] []) _ (fun t => nV ((Od.map (kd R)).idxOf (kd R t))) (fun i x hx => by rw [List.getD_eq_getElem?_getD, hx, Option.getD_some])] at e9
        refine ⟨D9, _, rfl, SqL.of e9, fun tp ntp => ?_⟩
        have s10 := same_new ntp (.tup ((B.rows.getD Od[i] []).map fun t => nV ((Od.map (kd R)).idxOf (kd R t))))
        have hD9 := s9 _ _ hD8
        have ntD : tp ≠ D8 := (ne_of_none hD9 ntp).symm
        refine ⟨_, s10 _ _ hD9, by rw [List.length_map]; exact small1000 (by omega), ts ++ [tp], by rw [List.length_append, htl]; rfl, fun b o e => ?_, by rw [upd_same, List.map_append]; rfl, fun j t s hj hs => ?_⟩
        · rw [upd_ne (ne_of_none e nD8)]
          exact s10 _ _ (s9 _ _ (s7 _ _ e))
        · by_cases hlt : j < ts.length
          · rw [List.getElem?_append_left hlt] at hj
            have k2 := hts j t s hj hs
            rw [upd_ne (ne_of k2 hD8 fun z => nomatch z)]
            exact s10 _ _ (s9 _ _ k2)
          · rw [List.getElem?_append_right (by omega)] at hj
            have hz : j - ts.length = 0 := by
              have := (List.getElem?_eq_some_iff.mp hj).1
              simp at this
              omega
            rw [hz] at hj
            obtain rfl : tp = t := by simpa using hj
            have hji : j = i := by omega
            subst hji
            rw [List.getElem?_eq_getElem hi] at hs
            obtain rfl := Option.some.inj hs
            rw [upd_ne ntD, upd_same, List.map_map]
            rfl
    obtain ⟨ts, htl, s7, hD8, hts⟩ := q0
    rw [List.length_map] at htl
    refine ⟨D8, _, rfl, SqL.of hD8, fun t8 nt8 => ?_⟩
    have s8 := same_new nt8 (.tup (ts.map V.ref))
    have s08 := ((s50.trans s6).trans s7).trans s8
    have hlo8 := s8 _ _ (s7 _ _ hlo6)
    refine ⟨_, rfl, _, rfl, lo, rfl, ⟨_, SqL.of hlo8⟩, fun D10 nD10 => ?_⟩
    refine lc_map (walk_list (K := K) (a := lo) (xs := Od.map nV)) nD10 (fun x => .bl (B.fin (Od.getD x 0))) (by rw [List.length_map]; exact small1000 (by omega)) (fun H9 s9 => SqL.of (s9 _ _ hlo8)) ?_ ?_
    · rintro x v H9 H10 hx s9 ⟨rfl, hv⟩ Rr hRr
      rw [List.length_map] at hx
      rw [List.getElem?_map, List.getElem?_eq_getElem hx] at hv
      obtain rfl : nV Od[x] = v := Option.some.inj hv
      have eg : Od.getD x 0 = Od[x] := by rw [List.getD_eq_getElem?_getD, List.getElem?_eq_getElem hx, Option.getD_some]
      rw [eg] at hRr
      have := hO.lt _ (List.getElem_mem hx)
      exact ⟨rfl, _, rfl, _, rfl, mk, _, _, _, rfl, rfl, SqL.of (s9 _ _ (s08 _ _ hM)), at_fin0 O this, hRr _ (Same.refl _)⟩
    intro H9 s9 e9
    rw [List.length_map, map_range_get Od _ (fun t => V.bl (B.fin t)) (fun i x hx => by rw [List.getD_eq_getElem?_getD, hx, Option.getD_some])] at e9
    refine ⟨D10, _, rfl, SqL.of e9, fun t10 nt10 => ⟨two 2 (by decide), fun tt ntt => ?_⟩⟩
    have s10 := same_new nt10 (.tup (Od.map fun t => V.bl (B.fin t)))
    have s11 := same_new ntt (.tup [V.ref t8, V.ref t10])
    have s9b := (s9.trans s10).trans s11
    refine q tt t8 t10 (lessT B R Od) Od.length _ (s08.trans s9b) (lessT_ok O hO) (fun w hw => lessT_acc O hK cong hO w 0 0 0 hw O.n1 hO.z rfl) ⟨SqT.new, ⟨ts, .inl (.inl (s9b _ _ upd_same)), ?_, fun i a row h1 h2 => ?_⟩, .inl (.inl ?_)⟩
    · rw [htl]
      exact (List.length_map _).symm
    · have h2 : (Od.map fun s => (B.rows.getD s []).map fun t => (Od.map (kd R)).idxOf (kd R t))[i]? = some row := h2
      rw [List.getElem?_map] at h2
      cases e : Od[i]? with
      | none =>
        rw [e] at h2
        cases h2
      | some s =>
        rw [e] at h2
        obtain rfl := Option.some.inj h2
        exact .inl (.inl (s9b _ _ (s8 _ _ (hts i a s h1 e))))
    · rw [s11 _ _ upd_same]
      show _ = some (HO.tup ((Od.map B.fin).map V.bl))
      rw [List.map_map]
      rfl
end
end Own
namespace Own
theorem Srt.uniq {S S' : List Nat} {A : Nat → Prop} (h : Srt S A) (h' : Srt S' A) : S = S' := by
  have key : ∀ (S S' : List Nat), S.Pairwise (· < ·) → S'.Pairwise (· < ·) → (∀ x, x ∈ S ↔ x ∈ S') → S = S' := by
    intro S
    induction S with
    | nil =>
      intro S' _ _ h
      cases S' with
      | nil => rfl
      | cons b r => exact absurd ((h b).mpr List.mem_cons_self) (by simp)
    | cons a r ih =>
      intro S' h1 h2 h
      cases S' with
      | nil => exact absurd ((h a).mp List.mem_cons_self) (by simp)
      | cons b t =>
        obtain ⟨p1, p2⟩ := List.pairwise_cons.mp h1
        obtain ⟨q1, q2⟩ := List.pairwise_cons.mp h2
        have hab : a = b := by
          rcases List.mem_cons.mp ((h a).mp List.mem_cons_self) with e | e
          · exact e
          · rcases List.mem_cons.mp ((h b).mpr List.mem_cons_self) with e' | e'
            · exact e'.symm
            · have := q1 a e
              have := p1 b e'
              omega
        subst hab
        rw [ih t p2 q2 fun x => ?_]
        constructor
        · intro hx
          rcases List.mem_cons.mp ((h x).mp (List.mem_cons_of_mem _ hx)) with e | e
          · have := p1 x hx
            omega
          · exact e
        · intro hx
          rcases List.mem_cons.mp ((h x).mpr (List.mem_cons_of_mem _ hx)) with e | e
          · have := q1 x hx
            omega
          · exact e
  exact key S S' h.pw h'.pw fun x => (h.iff x).trans (h'.iff x).symm
def subs {α : Type} : List α → List (List α)
  | [] => [[]]
  | a :: r => subs r ++ (subs r).map (a :: ·)
theorem subs_length {α : Type} : ∀ l : List α, (subs l).length = 2 ^ l.length
  | [] => rfl
  | a :: r => by
    rw [subs, List.length_append, List.length_map, subs_length r, List.length_cons, Nat.pow_succ]
    omega
theorem filter_subs {α : Type} (p : α → Bool) : ∀ l : List α, l.filter p ∈ subs l
  | [] => by simp [subs]
  | a :: r => by
    rw [List.filter_cons, subs]
    split
    · exact List.mem_append_right _ (List.mem_map.mpr ⟨_, filter_subs p r, rfl⟩)
    · exact List.mem_append_left _ (filter_subs p r)
/-- a lot that is come to by some of the edges F -/
def ByMask (E F : List Edge) (S : List Nat) : Prop := ∃ m, m ∈ subs F ∧ Srt S (Cl E fun j => ∃ e, e ∈ m ∧ e.2.2 = j)
theorem lots_le {E F : List Edge} (hF : F.length ≤ 5) {Ls : List (List Nat)} (nd : Ls.Nodup) (h : ∀ S, S ∈ Ls → ByMask E F S) : Ls.length ≤ 32 := by
  classical
  let f : List Nat → List Edge := fun S => if hS : ByMask E F S then Classical.choose hS else []
  have hf : ∀ S, S ∈ Ls → f S ∈ subs F ∧ Srt S (Cl E fun j => ∃ e, e ∈ f S ∧ e.2.2 = j) := fun S hS => by
    have hb := h S hS
    have e : f S = Classical.choose hb := dif_pos hb
    rw [e]
    exact Classical.choose_spec hb
  have hnd : (Ls.map f).Nodup := by
    refine List.pairwise_map.mpr ((List.Pairwise.and_mem.mp nd).imp fun {a b} hab e => ?_)
    obtain ⟨ha, hb, hne⟩ := hab
    have h1 := (hf a ha).2
    have h2 := (hf b hb).2
    rw [e] at h1
    exact hne (h1.uniq h2)
  have := subset_length hnd fun m hm => by
    obtain ⟨S, hS, rfl⟩ := List.mem_map.mp hm
    exact (hf S hS).1
  rw [List.length_map, subs_length] at this
  have h5 : 2 ^ F.length ≤ 2 ^ 5 := Nat.pow_le_pow_right (by decide) hF
  omega
theorem step_mask {E : List Edge} {S S' : List Nat} {x : Nat} (h : Srt S' (Cl E (StepTo E S x))) : ByMask E (E.filter fun e => !e.2.1.isEmpty) S' := by
  refine ⟨_, filter_subs (fun e => decide (e.1 ∈ S) && decide (x ∈ e.2.1)) _, h.ext fun j => Cl.congr fun j => ?_⟩
  constructor
  · rintro ⟨b, s, h1, h2, h3⟩
    refine ⟨(b, s, j), List.mem_filter.mpr ⟨List.mem_filter.mpr ⟨h1, ?_⟩, ?_⟩, rfl⟩
    · cases s with
      | nil => simp at h2
      | cons a r => rfl
    · rw [Bool.and_eq_true, decide_eq_true_iff, decide_eq_true_iff]
      exact ⟨h3, h2⟩
  · rintro ⟨⟨b, s, j'⟩, h1, rfl⟩
    obtain ⟨h2, h3⟩ := List.mem_filter.mp h1
    rw [Bool.and_eq_true, decide_eq_true_iff, decide_eq_true_iff] at h3
    exact ⟨b, s, (List.mem_filter.mp h2).1, h3.2, h3.1⟩
theorem reach_nil {E : List Edge} {j : Nat} : Reach E j [] ↔ Cl E (· ∈ [0]) j := by
  constructor
  · intro h
    generalize hw : ([] : Word) = w at h
    induction h with
    | start => exact .base (List.mem_singleton.mpr rfl)
    | eps he _ ih => exact .eps he (ih hw)
    | step he ha _ _ => simp at hw
  · intro h
    induction h with
    | base h =>
      rw [List.mem_singleton.mp h]
      exact .start
    | eps he _ ih => exact .eps he ih
theorem reach_snoc {E : List Edge} {j x : Nat} {w : Word} : Reach E j (w ++ [x]) ↔ Cl E (fun j => ∃ b s, (b, s, j) ∈ E ∧ x ∈ s ∧ Reach E b w) j := by
  constructor
  · intro h
    generalize hw : w ++ [x] = u at h
    induction h with
    | start => simp at hw
    | eps he _ ih => exact .eps he (ih hw)
    | @step b l a s v he ha hr _ =>
      obtain ⟨e1, e2⟩ := List.append_inj' hw rfl
      obtain rfl : x = a := by simpa using e2
      subst e1
      exact .base ⟨b, s, he, ha, hr⟩
  · intro h
    induction h with
    | base h =>
      obtain ⟨b, s, h1, h2, h3⟩ := h
      exact .step h1 h2 h3
    | eps he _ ih => exact .eps he ih
/-- the lots and their rows -/
structure LotsOk (E : List Edge) (k : Nat) (Ls : List (List Nat)) (rows : List (List Nat)) : Prop where
  nd : Ls.Nodup
  first : ∃ S, Ls[0]? = some S ∧ Srt S (Cl E (· ∈ [0]))
  by' : ∀ (i : Nat) (S : List Nat), 0 < i → Ls[i]? = some S → ByMask E (E.filter fun e => !e.2.1.isEmpty) S
  row : ∀ (i : Nat) (r S : List Nat), rows[i]? = some r → Ls[i]? = some S → r.length = k ∧ ∀ (l x : Nat), r[l]? = some x → ∃ S', Ls[x]? = some S' ∧ Srt S' (Cl E (StepTo E S l))
theorem LotsOk.le {E : List Edge} {k : Nat} {Ls rows : List (List Nat)} (h : LotsOk E k Ls rows) (h5 : ones E ≤ 5) : Ls.length ≤ 33 := by
  cases Ls with
  | nil => simp
  | cons S r =>
    have := lots_le (E := E) (F := E.filter fun e => !e.2.1.isEmpty) h5 (List.nodup_cons.mp h.nd).2 fun S' hS' => by
      obtain ⟨i, hi⟩ := List.getElem?_of_mem hS'
      exact h.by' (i + 1) S' (Nat.succ_pos _) (by simpa using hi)
    rw [List.length_cons]
    omega
theorem LotsOk.add {E : List Edge} {k : Nat} {Ls rows : List (List Nat)} (h : LotsOk E k Ls rows) (hl : rows.length ≤ Ls.length) {S' : List Nat} (hn : S' ∉ Ls) (hb : ByMask E (E.filter fun e => !e.2.1.isEmpty) S') : LotsOk E k (Ls ++ [S']) rows := by
  have up : ∀ (i : Nat) (S : List Nat), Ls[i]? = some S → (Ls ++ [S'])[i]? = some S := fun i S e => by
    rw [List.getElem?_append_left (List.getElem?_eq_some_iff.mp e).1]
    exact e
  refine ⟨nodup_snoc h.nd hn, ?_, fun i S h0 hi => ?_, fun i r S hr hi => ?_⟩
  · obtain ⟨S, h1, h2⟩ := h.first
    exact ⟨S, up _ _ h1, h2⟩
  · by_cases hil : i < Ls.length
    · rw [List.getElem?_append_left hil] at hi
      exact h.by' i S h0 hi
    · rw [List.getElem?_append_right (by omega)] at hi
      have hz : i - Ls.length = 0 := by
        have := (List.getElem?_eq_some_iff.mp hi).1
        simp at this
        omega
      rw [hz] at hi
      obtain rfl : S' = S := by simpa using hi
      exact hb
  · have hir : i < rows.length := (List.getElem?_eq_some_iff.mp hr).1
    rw [List.getElem?_append_left (by omega)] at hi
    obtain ⟨h1, h2⟩ := h.row i r S hr hi
    refine ⟨h1, fun l x hx => ?_⟩
    obtain ⟨T, h3, h4⟩ := h2 l x hx
    exact ⟨T, up _ _ h3, h4⟩
theorem LotsOk.addRow {E : List Edge} {k : Nat} {Ls rows : List (List Nat)} (h : LotsOk E k Ls rows) {S r : List Nat} (hS : Ls[rows.length]? = some S) (hr : r.length = k) (hx : ∀ (l x : Nat), r[l]? = some x → ∃ S', Ls[x]? = some S' ∧ Srt S' (Cl E (StepTo E S l))) : LotsOk E k Ls (rows ++ [r]) := by
  refine ⟨h.nd, h.first, h.by', fun i r' T hi hT => ?_⟩
  by_cases hil : i < rows.length
  · rw [List.getElem?_append_left hil] at hi
    exact h.row i r' T hi hT
  · rw [List.getElem?_append_right (by omega)] at hi
    have hz : i - rows.length = 0 := by
      have := (List.getElem?_eq_some_iff.mp hi).1
      simp at this
      omega
    rw [hz] at hi
    obtain rfl : r = r' := by simpa using hi
    have : i = rows.length := by omega
    rw [this, hS] at hT
    obtain rfl := Option.some.inj hT
    exact ⟨hr, hx⟩
/-- the lot behind a word holds the nodes to which the word leads -/
theorem LotsOk.run {E : List Edge} {k : Nat} {Ls rows : List (List Nat)} {ends : List Bool} (h : LotsOk E k Ls rows) (hr : rows.length = Ls.length) : ∀ (n : Nat) (w : Word), w.length = n → Wd k w → ∃ S, Ls[(Tab.mk rows ends).run 0 w]? = some S ∧ Srt S (fun j => Reach E j w)
  | 0, w, hn, _ => by
    obtain rfl := List.length_eq_zero_iff.mp hn
    obtain ⟨S, h1, h2⟩ := h.first
    exact ⟨S, h1, h2.ext fun j => reach_nil.symm⟩
  | n + 1, w, hn, hw => by
    have hne : w ≠ [] := fun e => by
      rw [e] at hn
      simp at hn
    obtain ⟨v, x, rfl⟩ : ∃ v x, w = v ++ [x] := ⟨w.dropLast, w.getLast hne, (List.dropLast_concat_getLast hne).symm⟩
    obtain ⟨S, h1, h2⟩ := h.run hr (ends := ends) n v (by rw [List.length_append] at hn; simpa using hn) fun y hy => hw y (List.mem_append_left _ hy)
    have hx : x < k := hw x (List.mem_append_right _ (List.mem_singleton.mpr rfl))
    have hlt := (List.getElem?_eq_some_iff.mp h1).1
    have hrg : rows[(Tab.mk rows ends).run 0 v]? = some rows[(Tab.mk rows ends).run 0 v] := List.getElem?_eq_getElem (by omega)
    obtain ⟨hl, h3⟩ := h.row _ _ S hrg h1
    have hxl : x < rows[(Tab.mk rows ends).run 0 v].length := by omega
    obtain ⟨S', h4, h5⟩ := h3 x _ (List.getElem?_eq_getElem hxl)
    rw [Tab.run_append]
    have e : (Tab.mk rows ends).run ((Tab.mk rows ends).run 0 v) [x] = rows[(Tab.mk rows ends).run 0 v][x] := by
      show (Tab.mk rows ends).st _ x = _
      unfold Tab.st
      show ((rows.getD _ []).getD x 0) = _
      rw [List.getD_eq_getElem?_getD (l := rows), hrg, Option.getD_some, List.getD_eq_getElem?_getD, List.getElem?_eq_getElem hxl, Option.getD_some]
    rw [e]
    refine ⟨S', h4, h5.ext fun j => ?_⟩
    rw [reach_snoc]
    refine Cl.congr fun j => ?_
    constructor
    · rintro ⟨b, s, k1, k2, k3⟩
      exact ⟨b, s, k1, k2, (h2.iff b).mp k3⟩
    · rintro ⟨b, s, k1, k2, k3⟩
      exact ⟨b, s, k1, k2, (h2.iff b).mpr k3⟩
end Own
namespace Own
open PySem PySem.Spec PyProof.Rows L2
theorem Reach.sem {k : Nat} {G : Word → Prop} {wt nb late c' : Nat} {N : List Edge} (W : Wired k G wt nb 1 2 late c' N) (w : Word) : Reach ((0, [], 1) :: N) late w ↔ G w := by
  constructor
  · intro h
    obtain ⟨A', e, clo, g⟩ := W.snd fun _ w => w = []
    have z := Reach.sound (A := A') (by rw [e 0 (by omega)]) (fun x hx => by
      rcases List.mem_cons.mp hx with rfl | hx
      · refine ⟨fun _ w hw => ?_, fun a ha => by simp at ha⟩
        show A' 1 w
        have hw : A' 0 w := hw
        rw [e 0 (by omega)] at hw
        rw [e 1 (by omega)]
        exact hw
      · exact clo x hx) h
    obtain ⟨u, v, rfl, hu, hv⟩ := g w z
    rw [hu]
    exact hv
  · intro h
    exact W.cmp _ (fun e he => List.mem_cons_of_mem _ he) [] w (.eps List.mem_cons_self .start) h
/-- data: a lot -/
def dLt (S : List Nat) : PyData := .tuple [.bool false, .tuple (S.map fun i => .int (i : Nat))]
theorem eqv_dLt (S T : List Nat) : PyData.eqv (dLt S) (dLt T) = decide (S = T) := by
  unfold dLt
  rw [PyData.eqv, PyData.eqvAll, PyData.eqvAll, PyData.eqvAll]
  have h1 : PyData.eqv (.bool false) (.bool false) = true := rfl
  have h2 : PyData.eqv (.tuple (S.map fun i => .int (i : Nat))) (.tuple (T.map fun i => .int (i : Nat))) = decide (S = T) := by
    rw [PyData.eqv]
    exact eqvAll_map _ eqv_dI S T
  rw [h1, h2, Bool.and_true, Bool.true_and]
theorem smD_dLt (S : List Nat) : SmD (dLt S) := by
  unfold dLt
  have h1 := canLay_dIs S
  unfold dIs at h1
  rw [PyData.canLay0] at h1
  have h2 := depth_map (fun i : Nat => PyData.int (i : Nat)) 0 (fun x => by simp [PyData.depth]) S
  refine ⟨?_, ?_⟩
  · simp only [PyData.canLay0, PyData.canLayAll0, h1, Bool.and_true]
  · simp only [PyData.depth, PyData.depthAll]
    omega
/-- lots in the heap -/
def LotAt (H : Hp) (a : Addr) (S : List Nat) : Prop := ∃ st : Addr, H a = some (.tup [.bl false, .ref st]) ∧ H st = some (.tup (S.map nV))
theorem LotAt.same {H H' : Hp} {a : Addr} {S : List Nat} (h : LotAt H a S) (s : Same H H') : LotAt H' a S := by
  obtain ⟨st, h1, h2⟩ := h
  exact ⟨st, s _ _ h1, s _ _ h2⟩
/-- a list changes -/
theorem LotAt.upd {H : Hp} {a l : Addr} {S : List Nat} {xs : List V} {o : HO} (h : LotAt H a S) (hl : H l = some (.lst xs)) : LotAt (upd H l o) a S := by
  obtain ⟨st, h1, h2⟩ := h
  exact ⟨st, by rw [upd_ne (ne_of h1 hl fun z => nomatch z)]; exact h1, by rw [upd_ne (ne_of h2 hl fun z => nomatch z)]; exact h2⟩
theorem LotAt.dp {K : PySem.W.Frag} {H : Hp} {a : Addr} {S : List Nat} (h : LotAt H a S) : Dp K H (.ref a) (dLt S) := by
  obtain ⟨st, h1, h2⟩ := h
  exact .tup (.inl (.inl h1)) (.cons (.bl _) (.cons (.tup (.inl (.inl h2)) (dpAll_map nV (fun i => .int (i : Nat)) S fun x _ => .int _)) .nil))
/-- all that the table's loop keeps -/
structure TbS (K : PySem.W.Frag) (na el ea lo ra ma : Addr) (c late : Nat) (E : List Edge) (H : Hp) (Ls : List (List Nat)) (lt rs : List Addr) (rowsL : List (List Nat)) (ms : List Bool) : Prop where
  net : NetAt K H na el c E
  hea : H ea = some (.lst [nV late])
  hlo : H lo = some (.lst (lt.map V.ref))
  ltl : lt.length = Ls.length
  lot : ∀ (i : Nat) (a : Addr) (S : List Nat), lt[i]? = some a → Ls[i]? = some S → LotAt H a S
  hra : H ra = some (.lst (rs.map V.ref))
  rsl : rs.length = rowsL.length
  row : ∀ (i : Nat) (a : Addr) (r : List Nat), rs[i]? = some a → rowsL[i]? = some r → H a = some (.lst (r.map nV))
  rne : ∀ a, a ∈ rs → a ≠ lo ∧ a ≠ ra ∧ a ≠ ma
  hma : H ma = some (.lst (ms.map V.bl))
  ne : (na ≠ lo ∧ na ≠ ra ∧ na ≠ ma) ∧ (el ≠ lo ∧ el ≠ ra ∧ el ≠ ma) ∧ (ea ≠ lo ∧ ea ≠ ra ∧ ea ≠ ma) ∧ lo ≠ ra ∧ lo ≠ ma ∧ ra ≠ ma
section
variable {K : PySem.W.Frag} {na el ea lo ra ma : Addr} {c late : Nat} {E : List Edge} {H H' : Hp} {Ls : List (List Nat)} {lt rs : List Addr} {rowsL : List (List Nat)} {ms : List Bool}
theorem NetAt.other {x : Addr} {xs : List V} {o : HO} (h : NetAt K H na el c E) (hx : H x = some (.lst xs)) (n1 : na ≠ x) (n2 : el ≠ x) : NetAt K (upd H x o) na el c E := by
  obtain ⟨es, h1, h2, h3⟩ := h.ed
  refine ⟨by rw [upd_ne n1]; exact h.top, h.ne, es, by rw [upd_ne n2]; exact h1, h2, fun i y e q1 q2 => ?_⟩
  have bt : But x H (upd H x o) := fun b u hb e => by
    rw [upd_ne hb]
    exact e
  exact bt.tup hx (fun _ z => nomatch z) (fun _ _ z => nomatch z) (h3 i y e q1 q2)
theorem TbS.same (t : TbS K na el ea lo ra ma c late E H Ls lt rs rowsL ms) (s : Same H H') : TbS K na el ea lo ra ma c late E H' Ls lt rs rowsL ms :=
  ⟨t.net.same s, s _ _ t.hea, s _ _ t.hlo, t.ltl, fun i a S h1 h2 => (t.lot i a S h1 h2).same s, s _ _ t.hra, t.rsl, fun i a r h1 h2 => s _ _ (t.row i a r h1 h2), t.rne, s _ _ t.hma, t.ne⟩
theorem TbS.addLot (t : TbS K na el ea lo ra ma c late E H Ls lt rs rowsL ms) {a : Addr} {S : List Nat} (ha : LotAt H a S) : TbS K na el ea lo ra ma c late E (upd H lo (.lst (lt.map V.ref ++ [.ref a]))) (Ls ++ [S]) (lt ++ [a]) rs rowsL ms := by
  obtain ⟨⟨n1, n2, n3⟩, ⟨m1, m2, m3⟩, ⟨p1, p2, p3⟩, q1, q2, q3⟩ := t.ne
  refine ⟨t.net.other t.hlo n1 m1, by rw [upd_ne p1]; exact t.hea, by rw [upd_same, List.map_append]; rfl, by rw [List.length_append, List.length_append, t.ltl]; rfl, fun i b S' h1 h2 => ?_, by rw [upd_ne q1.symm]; exact t.hra, t.rsl, fun i b r h1 h2 => ?_, t.rne, by rw [upd_ne q2.symm]; exact t.hma, t.ne⟩
  · by_cases hi : i < lt.length
    · rw [List.getElem?_append_left hi] at h1
      rw [List.getElem?_append_left (by rw [← t.ltl]; exact hi)] at h2
      exact (t.lot i b S' h1 h2).upd t.hlo
    · rw [List.getElem?_append_right (by omega)] at h1
      have hz : i - lt.length = 0 := by
        have := (List.getElem?_eq_some_iff.mp h1).1
        simp at this
        omega
      rw [hz] at h1
      rw [List.getElem?_append_right (by rw [← t.ltl]; omega), ← t.ltl, hz] at h2
      obtain rfl : a = b := by simpa using h1
      obtain rfl : S = S' := by simpa using h2
      exact ha.upd t.hlo
  · rw [upd_ne (t.rne b (List.mem_of_getElem? h1)).1]
    exact t.row i b r h1 h2
theorem TbS.addMark (t : TbS K na el ea lo ra ma c late E H Ls lt rs rowsL ms) (b : Bool) : TbS K na el ea lo ra ma c late E (upd H ma (.lst (ms.map V.bl ++ [.bl b]))) Ls lt rs rowsL (ms ++ [b]) := by
  obtain ⟨⟨n1, n2, n3⟩, ⟨m1, m2, m3⟩, ⟨p1, p2, p3⟩, q1, q2, q3⟩ := t.ne
  exact ⟨t.net.other t.hma n3 m3, by rw [upd_ne p3]; exact t.hea, by rw [upd_ne q2]; exact t.hlo, t.ltl, fun i a S h1 h2 => (t.lot i a S h1 h2).upd t.hma, by rw [upd_ne q3]; exact t.hra, t.rsl, fun i a r h1 h2 => by
    rw [upd_ne (t.rne a (List.mem_of_getElem? h1)).2.2]
    exact t.row i a r h1 h2, t.rne, by rw [upd_same, List.map_append]; rfl, t.ne⟩
theorem TbS.addRow (t : TbS K na el ea lo ra ma c late E H Ls lt rs rowsL ms) {a : Addr} {r : List Nat} (ha : H a = some (.lst (r.map nV))) (hn : a ≠ lo ∧ a ≠ ra ∧ a ≠ ma) : TbS K na el ea lo ra ma c late E (upd H ra (.lst (rs.map V.ref ++ [.ref a]))) Ls lt (rs ++ [a]) (rowsL ++ [r]) ms := by
  obtain ⟨⟨n1, n2, n3⟩, ⟨m1, m2, m3⟩, ⟨p1, p2, p3⟩, q1, q2, q3⟩ := t.ne
  refine ⟨t.net.other t.hra n2 m2, by rw [upd_ne p2]; exact t.hea, by rw [upd_ne q1]; exact t.hlo, t.ltl, fun i b S h1 h2 => (t.lot i b S h1 h2).upd t.hra, by rw [upd_same, List.map_append]; rfl, by rw [List.length_append, List.length_append, t.rsl]; rfl, fun i b r' h1 h2 => ?_, fun b hb => ?_, by rw [upd_ne q3.symm]; exact t.hma, t.ne⟩
  · by_cases hi : i < rs.length
    · rw [List.getElem?_append_left hi] at h1
      rw [List.getElem?_append_left (by rw [← t.rsl]; exact hi)] at h2
      rw [upd_ne (t.rne b (List.mem_of_getElem? h1)).2.1]
      exact t.row i b r' h1 h2
    · rw [List.getElem?_append_right (by omega)] at h1
      have hz : i - rs.length = 0 := by
        have := (List.getElem?_eq_some_iff.mp h1).1
        simp at this
        omega
      rw [hz] at h1
      rw [List.getElem?_append_right (by rw [← t.rsl]; omega), ← t.rsl, hz] at h2
      obtain rfl : a = b := by simpa using h1
      obtain rfl : r = r' := by simpa using h2
      rw [upd_ne hn.2.1]
      exact ha
  · rcases List.mem_append.mp hb with q | q
    · exact t.rne b q
    · rw [List.mem_singleton.mp q]
      exact hn
/-- another list changes -/
theorem TbS.other (t : TbS K na el ea lo ra ma c late E H Ls lt rs rowsL ms) {x : Addr} {xs : List V} (hx : H x = some (.lst xs)) (o : HO) (hn : na ≠ x ∧ el ≠ x ∧ ea ≠ x ∧ lo ≠ x ∧ ra ≠ x ∧ ma ≠ x) (hr : x ∉ rs) : TbS K na el ea lo ra ma c late E (upd H x o) Ls lt rs rowsL ms := by
  obtain ⟨n1, n2, n3, n4, n5, n6⟩ := hn
  exact ⟨t.net.other hx n1 n2, by rw [upd_ne n3]; exact t.hea, by rw [upd_ne n4]; exact t.hlo, t.ltl, fun i b S h1 h2 => (t.lot i b S h1 h2).upd hx, by rw [upd_ne n5]; exact t.hra, t.rsl, fun i b r h1 h2 => by
    rw [upd_ne (fun z => hr (by rw [← z]; exact List.mem_of_getElem? h1))]
    exact t.row i b r h1 h2, t.rne, by rw [upd_ne n6]; exact t.hma, t.ne⟩
end
section
variable {P : Program} {w : World} {K : PySem.W.Frag} {mg : Str → Option Value} {base : Heap}
abbrev s_law_table : Stmt := topS 63
theorem sc_law_table : FnScope ["size", "patterns", "is_rules", "net", "ends", "pattern", "begin", "lots", "rows", "marks", "is_begun", "nodes", "some", "row", "letter", "late", "number", "end"] ["size", "patterns", "is_rules"] (defScope s_law_table) := ⟨rfl, rfl, rfl, by decide +kernel, rfl, by decide +kernel, by decide +kernel⟩
def sp_law_table (K : PySem.W.Frag) : Sp := fun vs H Q _ => ∃ (pl x : Addr) (p : Pat) (k : Nat), vs = [nV k, .ref pl, .bl false] ∧ H pl = some (.lst [.ref x]) ∧ PatAt K H p x ∧ p.Ok k ∧ 1 ≤ k ∧ k ≤ 3 ∧ p.depth < 4 ∧ p.wt ≤ 5 ∧ p.nb ≤ 1000 ∧
  ∀ (t r e : Addr) (T : Tab) (n : Nat) (H' : Hp), Same H H' → T.Ok k n → (∀ w, Wd k w → (T.acc 0 w = true ↔ L p w)) → TabAt K H' t r e T → Q (.ref t) H'
theorem ok_law_table {f : Addr} {fd : FuncData} (F : Fun K "_law_table" "_law_table" s_law_table f fd) (B : Bt mg) (C_law_node : Got P w K mg base CX0 1 "_law_node" ["net"] (sp_law_node K)) (C_law_wire : Got P w K mg base CX0 9 "_law_wire" ["net", "pattern", "begin"] (sp_law_wire K 4))
    (C_law_still : Got P w K mg base CX0 1 "_law_still" ["net", "nodes"] (sp_law_still K)) (C_law_step : Got P w K mg base CX0 2 "_law_step" ["net", "nodes", "letter"] (sp_law_step K)) (C_law_least : Got P w K mg base CX0 2 "_law_least" ["rows", "marks"] (sp_law_least K)) :
    FnOk P w K mg base CX0 10 f fd ["size", "patterns", "is_rules"] (sp_law_table K) := by
  refine F.ok sc_law_table (fun vs H Q E h => ?_) (fun cdv A outer s0 H vs Q E hr h => ?_)
  · obtain ⟨pl, x, p, k, rfl, _⟩ := h
    rfl
  obtain ⟨pl, x, p, k, rfl, hpl, pt, ok, hk1, hk3, dp, hwt, hnb, q⟩ := h
  have hr1 : Room 1 _ := hr.mono (by decide)
  have hr2 : Room 2 _ := hr.mono (by decide)
  have hu65 := hu65_of hr
  have two : ∀ n, n ≤ 10 → n ≤ sizeLine := fun n h => Nat.le_of_lt (small1000 (by omega))
  refine ⟨_, (pss_cons (ps_par (i := 3) (j := 4) rfl sc_law_table.nd rfl rfl (by decide) rfl rfl (pa_cons (pe_lst (pa_cons pe_int (pa_cons (pe_lst pa_nil) pa_nil))) (pa_cons (pe_lst pa_nil) pa_nil)) (by rfl)) (pss_cons (ps_for PassesOwn.never rfl (p_list K (pv 1)) (pg_name (i := 5) sc_law_table.nd rfl (Or.inl rfl)) (pss_cons (ps_set (i := 6) sc_law_table.nd rfl (Or.inl rfl) (C_law_node.call hr1 (by rfl) (pa_cons (pv 3) pa_nil))) (pss_cons (ps_expr (p_app K (p_ixl K (pv 3) pe_int) (pa_cons (pe_tup (pa_cons pe_int (pa_cons pe_str (pa_cons (pv 6) pa_nil)))) pa_nil))) (pss_one (ps_expr (p_app K (pv 4) (pa_cons (C_law_wire.call hr (by rfl) (pa_cons (pv 3) (pa_cons (pv 5) (pa_cons (pv 6) pa_nil)))) pa_nil))))))) (pss_cons (ps_par3 (i := 7) (j := 8) (l := 9) rfl sc_law_table.nd rfl rfl rfl (by decide) (by decide) (by decide) rfl rfl rfl (pa_cons (pe_lst (pa_cons (pe_tup (pa_cons pe_bl (pa_cons (C_law_still.call hr1 (by rfl) (pa_cons (pv 3) (pa_cons (pe_lst (pa_cons pe_int pa_nil)) pa_nil))) pa_nil))) pa_nil)) (pa_cons (pe_lst pa_nil) (pa_cons (pe_lst pa_nil) pa_nil))) (by rfl)) (pss_cons (ps_while PassesOwn.never (pt_cmpR op_lt (pe_callB (c_len K) (by rfl) B.len bt_len (pa_cons (pv 8) pa_nil)) (pe_callB (c_len K) (by rfl) B.len bt_len (pa_cons (pv 7) pa_nil)) (nomark _)) (pss_cons (ps_asg (p_ixl K (pv 7) (pe_callB (c_len K) (by rfl) B.len bt_len (pa_cons (pv 8) pa_nil))) (g_tup K 2 (pgs_cons (pg_name (i := 10) sc_law_table.nd rfl (Or.inl rfl)) (pgs_cons (pg_name (i := 11) sc_law_table.nd rfl (Or.inr rfl)) pgs_nil)))) (pss_cons (ps_setLc (i := 12) (own := [("number", 16), ("end", 17)]) rfl sc_law_table.nd rfl rfl (sw_true rfl rfl rfl (by decide +kernel)) (pi_enum (by rfl) B.enumerate (pa_cons (pv 4) pa_nil)) (blkOk_by (by kernel_rfl)) (fun _ _ _ _ _ => (g_tup K 2 (pgs_cons (pg_name (i := 16) sc_law_table.nd rfl (Or.inl rfl)) (pgs_cons (pg_name (i := 17) sc_law_table.nd rfl (Or.inl rfl)) pgs_nil)))) (fun _ _ _ _ _ => (pts_one (t_in K (pv 17) (pv 11)))) (fun _ _ _ _ _ => (pv 16))) (pss_cons (ps_if (p_tru K (pv 2)) (pss_one (ps_expr (p_app K (pv 9) (pa_cons (pe_ifExp (PW.pt (pw_and (p_tru K (pv 10)) (pw_and1 (pt_cmpR (op_neD hr.units) (pv 12) (pe_lst pa_nil) (nomark _))))) (p_ixl K (pv 12) pe_int) pe_non) pa_nil)))) (pss_one (ps_expr (p_app K (pv 9) (pa_cons (pe_cmpR (op_neD hr.units) (pv 12) (pe_lst pa_nil) (nomark _)) pa_nil))))) (pss_cons (ps_set (i := 13) sc_law_table.nd rfl (Or.inl rfl) (pe_lst pa_nil)) (pss_cons (ps_for PassesOwn.never rfl (pi_str (pe_slice sl_str pe_str po_none (po_some (pv 0)))) (pg_name (i := 14) sc_law_table.nd rfl (Or.inl rfl)) (pss_cons (ps_set (i := 15) sc_law_table.nd rfl (Or.inl rfl) (pe_tup (pa_cons (pv 2) (pa_cons (C_law_step.call hr2 (by rfl) (pa_cons (pv 3) (pa_cons (pv 11) (pa_cons (pv 14) pa_nil)))) pa_nil)))) (pss_cons (ps_if (t_ninD K hu65 (pv 15) (pv 7)) (pss_one (ps_expr (p_app K (pv 7) (pa_cons (pv 15) pa_nil)))) pss_nil) (pss_one (ps_expr (p_app K (pv 13) (pa_cons (p_lixD K hu65 (pv 7) (pa_cons (pv 15) pa_nil)) pa_nil))))))) (pss_one (ps_expr (p_app K (pv 8) (pa_cons (pv 13) pa_nil)))))))))) (pss_one (ps_ret (C_law_least.call hr2 (by rfl) (pa_cons (pv 8) (pa_cons (pv 9) pa_nil))))))))), ?_⟩
  rw [empty_eq]
  -- net, ends = [1, []], []
  refine ⟨two 0 (by decide), fun el nel => ⟨two 2 (by decide), fun na nna => ⟨two 0 (by decide), fun ea nea => ⟨_, _, rfl, ?_⟩⟩⟩⟩
  have s1 := same_new nel (.lst [])
  have s2 := same_new nna (.lst [V.int 1, V.ref el])
  have s3 := same_new nea (.lst [])
  have s13 := (s1.trans s2).trans s3
  have nel_na : el ≠ na := ne_of_none (show (upd H el (.lst [])) el = some (.lst []) from upd_same) nna
  have N0 : NetAt K (upd (upd (upd H el (.lst [])) na (.lst [V.int 1, V.ref el])) ea (.lst [])) na el 1 [] := by
    refine ⟨s3 _ _ upd_same, nel_na, [], s3 _ _ (s2 _ _ upd_same), rfl, fun i x e h => by simp at h⟩
  have hea0 : (upd (upd (upd H el (.lst [])) na (.lst [V.int 1, V.ref el])) ea (.lst [])) ea = some (.lst []) := upd_same
  have nea_na : ea ≠ na := fun z => by
    rw [z] at nea
    rw [upd_same] at nea
    cases nea
  have nea_el : ea ≠ el := fun z => by
    rw [z, upd_ne nel_na, upd_same] at nea
    cases nea
  have hpl0 := s13 _ _ hpl
  have pt0 := pt.same s13
  have nel0 : H el = none := nel
  have nna0 : H na = none := s1.free nna
  have nea0 : H ea = none := (s1.trans s2).free nea
  generalize upd (upd (upd H el (.lst [])) na (.lst [V.int 1, V.ref el])) ea (.lst []) = H0 at *
  refine ⟨_, rfl, pl, rfl, ⟨_, SqL.of hpl0⟩, ?_⟩
  refine for_list (K := K) (a := pl) (xs := [V.ref x]) (fun i σ H1 => ∃ (v5 v6 : Option V), σ = [some (nV k), some (.ref pl), some (.bl false), some (.ref na), some (.ref ea), v5, v6, none, none, none, none, none, none, none, none, none, none, none] ∧ Same H H1 ∧
      ((i = 0 ∧ H1 = H0) ∨ (i = 1 ∧ ∃ (late c' : Nat) (N : List Edge), Wired k (L p) p.wt p.nb 1 2 late c' N ∧ NetAt K H1 na el c' ([(0, [], 1)] ++ N) ∧ H1 ea = some (.lst [nV late]))))
    ⟨none, none, rfl, s13, .inl ⟨rfl, rfl⟩⟩ (fun i σ H1 _ h => ?_) ?_ ?_
  · obtain ⟨_, _, _, h, _⟩ := h
    exact SqL.of (h _ _ hpl)
  · rintro i v σ H1 hx ⟨v5, v6, rfl, sH1, hcase⟩
    rcases hcase with ⟨rfl, hH1⟩ | ⟨rfl, _⟩
    rotate_left
    · simp at hx
    subst hH1
    obtain rfl : V.ref x = v := by simpa using hx
    refine ⟨_, rfl, na, el, 1, [], rfl, N0, fun H2 b2 N2 => ?_⟩
    obtain ⟨es, he, hel⟩ := N2.len
    refine ⟨_, rfl, na, _, _, _, rfl, rfl, SqL.of N2.top, at1, .inl ⟨rfl, _, SqL.of he⟩, _, rfl, two 3 (by decide), fun tp ntp => ?_⟩
    refine ⟨el, _, _, rfl, rfl, same_new ntp _ _ _ he, by rw [List.length_map, hel]; exact small1000 (by simp), ?_⟩
    obtain ⟨N3, b3⟩ := N2.app he ntp (0, [], 1)
    have hea3 := b3 _ _ nea_na nea_el (b2 _ _ nea_na nea_el hea0)
    refine ⟨_, rfl, .inl ⟨rfl, _, SqL.of hea3⟩, _, rfl, _, rfl, _, rfl, na, el, x, 2, _, p, 1, k, rfl, N3, pt0.mono (fun y ys h => N0.tups (b2.trans b3) y ys h), ok, hk3, dp, by decide, by simp only [List.length_append, List.length_cons, List.length_nil]; omega, fun late c' N H4 W b4 N4 => ?_⟩
    have hea4 := b4 _ _ nea_na nea_el hea3
    refine ⟨ea, _, _, rfl, rfl, hea4, (show 0 < sizeLine by decide), _, _, rfl, fun b o e => ?_, .inr ⟨rfl, late, c', N, W, ?_, by rw [upd_same]; rfl⟩⟩
    · have h1 := sH1 _ _ e
      rw [upd_ne (ne_of_none e nea0)]
      exact ((b2.trans b3).trans b4) _ _ (ne_of_none e nna0) (ne_of_none e nel0) h1
    · exact N4.other hea4 nea_na.symm nea_el.symm
  rintro σ H1 ⟨v5, v6, rfl, sH1, hcase⟩
  rcases hcase with ⟨h0, _⟩ | ⟨_, late, c', N, W, N1, hea1⟩
  · simp at h0
  have hEl : ([(0, [], 1)] ++ N : List Edge).length ≤ 1001 := by
    have := W.eb
    simp only [List.length_append, List.length_cons, List.length_nil]
    omega
  have hcb : c' ≤ 1002 := by
    have := W.cb
    omega
  have htg : ∀ e, e ∈ ([(0, [], 1)] ++ N : List Edge) → e.2.2 < c' := fun e he => by
    have h2 := W.le
    rcases List.mem_append.mp he with h | h
    · rw [List.mem_singleton.mp h]
      show 1 < c'
      omega
    · exact (W.tgt e h).2
  have hone : ones ([(0, [], 1)] ++ N) ≤ 5 := by
    rw [ones_append]
    have := W.one
    have : ones [((0 : Nat), ([] : List Nat), (1 : Nat))] = 0 := rfl
    omega
  have hsem : ∀ w, Reach ([(0, [], 1)] ++ N) late w ↔ L p w := fun w => Reach.sem W w
  generalize hEE : ([(0, [], 1)] ++ N : List Edge) = EE at *
  have hc2 := W.le
  -- lots, rows, marks
  refine ⟨_, rfl, two 1 (by decide), fun l0 nl0 => ?_⟩
  have s4 := same_new nl0 (.lst [nV 0])
  refine ⟨na, el, l0, c', EE, [0], rfl, N1.same s4, by omega, by omega, htg, SqL.of upd_same, by decide, fun j h => by rw [List.mem_singleton.mp h]; omega, fun S0 t0 H2 hS0 s5 nt0 ht0 => ⟨two 2 (by decide), fun tp ntp => ⟨two 1 (by decide), fun lo nlo => ⟨two 0 (by decide), fun ra nra => ⟨two 0 (by decide), fun ma nma => ⟨_, _, _, rfl, ?_⟩⟩⟩⟩⟩⟩
  have s6 := same_new ntp (.tup [V.bl false, V.ref t0])
  have s7 := same_new nlo (.lst [V.ref tp])
  have s8 := same_new nra (.lst [])
  have s9 := same_new nma (.lst [])
  have s49 := ((((s4.trans s5).trans s6).trans s7).trans s8).trans s9
  have N2 := N1.same s49
  have hea2 := s49 _ _ hea1
  have hlo2 : _ = some (HO.lst [V.ref tp]) := s9 _ _ (s8 _ _ (show (upd (upd H2 tp (.tup [V.bl false, V.ref t0])) lo (.lst [V.ref tp])) lo = some (.lst [V.ref tp]) from upd_same))
  have hra2 := s9 _ _ (show (upd (upd (upd H2 tp (.tup [V.bl false, V.ref t0])) lo (.lst [V.ref tp])) ra (.lst [])) ra = some (.lst []) from upd_same)
  have hma2 : (upd (upd (upd (upd H2 tp (.tup [V.bl false, V.ref t0])) lo (.lst [V.ref tp])) ra (.lst [])) ma (.lst [])) ma = some (.lst []) := upd_same
  have nlora : lo ≠ ra := ne_of_none (show (upd (upd H2 tp (.tup [V.bl false, V.ref t0])) lo (.lst [V.ref tp])) lo = some (.lst [V.ref tp]) from upd_same) nra
  have nloma : lo ≠ ma := ne_of_none (s8 _ _ (show (upd (upd H2 tp (.tup [V.bl false, V.ref t0])) lo (.lst [V.ref tp])) lo = some (.lst [V.ref tp]) from upd_same)) nma
  have nrama : ra ≠ ma := ne_of_none (show (upd (upd (upd H2 tp (.tup [V.bl false, V.ref t0])) lo (.lst [V.ref tp])) ra (.lst [])) ra = some (.lst []) from upd_same) nma
  have old : ∀ b o, H1 b = some o → b ≠ lo ∧ b ≠ ra ∧ b ≠ ma := fun b o e => by
    have e6 := s6 _ _ (s5 _ _ (s4 _ _ e))
    exact ⟨ne_of_none e6 nlo, ne_of_none (s7 _ _ e6) nra, ne_of_none (s8 _ _ (s7 _ _ e6)) nma⟩
  obtain ⟨es1, he1, _⟩ := N1.len
  have LA0 : LotAt (upd (upd (upd (upd H2 tp (.tup [V.bl false, V.ref t0])) lo (.lst [V.ref tp])) ra (.lst [])) ma (.lst [])) tp S0 := by
    refine (LotAt.same ?_ ((s7.trans s8).trans s9))
    exact ⟨t0, upd_same, s6 _ _ ht0⟩
  have sH2 := sH1.trans s49
  have new3 : H lo = none ∧ H ra = none ∧ H ma = none := by
    have s46 := sH1.trans ((s4.trans s5).trans s6)
    exact ⟨s46.free nlo, (s46.trans s7).free nra, ((s46.trans s7).trans s8).free nma⟩
  have T0 : TbS K na el ea lo ra ma c' late EE (upd (upd (upd (upd H2 tp (.tup [V.bl false, V.ref t0])) lo (.lst [V.ref tp])) ra (.lst [])) ma (.lst [])) [S0] [tp] [] [] [] :=
    ⟨N2, hea2, hlo2, rfl, fun i a S h1 h2 => by
      cases i with
      | zero =>
        obtain rfl : tp = a := by simpa using h1
        obtain rfl : S0 = S := by simpa using h2
        exact LA0
      | succ i => simp at h1, hra2, rfl, fun i a r h1 => by simp at h1, fun a h => by simp at h, hma2, ⟨old _ _ N1.top, old _ _ he1, old _ _ hea1, nlora, nloma, nrama⟩⟩
  have L0 : LotsOk EE k [S0] [] := ⟨by simp, ⟨S0, rfl, hS0⟩, fun i S h0 hi => by
    have := (List.getElem?_eq_some_iff.mp hi).1
    simp at this
    omega, fun i r S h => by simp at h⟩
  generalize (upd (upd (upd (upd H2 tp (.tup [V.bl false, V.ref t0])) lo (.lst [V.ref tp])) ra (.lst [])) ma (.lst [])) = H3 at *
  refine ⟨fun m σ H4 => ∃ (Ls : List (List Nat)) (lt rs : List Addr) (rowsL : List (List Nat)) (ms : List Bool) (v10 v11 v12 v13 v14 v15 : Option V), m = 34 - rowsL.length ∧ rowsL.length ≤ Ls.length ∧ ms.length = rowsL.length ∧ σ = [some (nV k), some (.ref pl), some (.bl false), some (.ref na), some (.ref ea), v5, v6, some (.ref lo), some (.ref ra), some (.ref ma), v10, v11, v12, v13, v14, v15, none, none] ∧
      Same H H4 ∧ TbS K na el ea lo ra ma c' late EE H4 Ls lt rs rowsL ms ∧ LotsOk EE k Ls rowsL ∧ ∀ (i : Nat) (S : List Nat) (b : Bool), Ls[i]? = some S → ms[i]? = some b → b = decide (late ∈ S),
    ⟨_, [S0], [tp], [], [], [], none, none, none, none, none, none, rfl, Nat.zero_le _, rfl, rfl, sH2, T0, L0, fun i S b _ h => by simp at h⟩, ?_⟩
  rintro m σ H4 ⟨Ls, lt, rs, rowsL, ms, v10, v11, v12, v13, v14, v15, hm, hrl, hml, rfl, sH4, T4, L4, hms⟩
  have hL33 := L4.le hone
  refine ⟨_, rfl, ra, _, rfl, .inl (SqL.of T4.hra), _, rfl, lo, _, rfl, .inl (SqL.of T4.hlo), _, _, rfl, rfl, _, rfl, ?_⟩
  rw [List.length_map, List.length_map, T4.rsl, T4.ltl]
  refine ite2 (fun c => ?_) (fun c => ?_)
  rotate_left
  · have c : ¬ ((rowsL.length : Nat) : Int) < (Ls.length : Nat) := of_decide_eq_false (Bool.eq_false_iff.mpr c)
    have hle : rowsL.length = Ls.length := by omega
    have hpos : 0 < Ls.length := by
      obtain ⟨S, h1, _⟩ := L4.first
      exact (List.getElem?_eq_some_iff.mp h1).1
    have BO : BOk ⟨rowsL, ms⟩ k Ls.length := by
      refine ⟨hk1, hk3, hpos, by omega, hle, by rw [← hle]; exact hml, fun r hr => ?_⟩
      obtain ⟨i, hi⟩ := List.getElem?_of_mem hr
      have hil : i < Ls.length := by
        rw [← hle]
        exact (List.getElem?_eq_some_iff.mp hi).1
      obtain ⟨h1, h2⟩ := L4.row i r _ hi (List.getElem?_eq_getElem hil)
      refine ⟨h1, fun x hx => ?_⟩
      obtain ⟨l, hl⟩ := List.getElem?_of_mem hx
      obtain ⟨S', h3, _⟩ := h2 l x hl
      exact (List.getElem?_eq_some_iff.mp h3).1
    refine ⟨_, rfl, _, rfl, ra, ma, ⟨rowsL, ms⟩, k, Ls.length, rfl, ⟨rs, T4.hra, T4.rsl, T4.row⟩, T4.hma, BO, fun t r' e' T n H5 s5 OT hacc hT => ?_⟩
    refine q t r' e' T n H5 (sH4.trans s5) OT (fun w hw => ?_) hT
    rw [hacc w hw, ← hsem w]
    obtain ⟨S, h1, h2⟩ := L4.run hle (ends := ms) w.length w rfl hw
    rw [← h2.iff late]
    have hlt := (List.getElem?_eq_some_iff.mp h1).1
    have hmg : ms[(Tab.mk rowsL ms).run 0 w]? = some ms[(Tab.mk rowsL ms).run 0 w] := List.getElem?_eq_getElem (by omega)
    have e := hms _ S _ h1 hmg
    have e2 : (Tab.mk rowsL ms).acc 0 w = decide (late ∈ S) := by
      show (ms.getD _ false) = _
      rw [List.getD_eq_getElem?_getD, hmg, Option.getD_some, e]
    rw [e2, decide_eq_true_iff]
  have c : ((rowsL.length : Nat) : Int) < (Ls.length : Nat) := of_decide_eq_true c
  have hlt : rowsL.length < Ls.length := by omega
  obtain ⟨S, hSi⟩ : ∃ S, Ls[rowsL.length]? = some S := ⟨_, List.getElem?_eq_getElem hlt⟩
  have hlti : rowsL.length < lt.length := by rw [T4.ltl]; exact hlt
  have hta : lt[rowsL.length]? = some lt[rowsL.length] := List.getElem?_eq_getElem hlti
  obtain ⟨st, hst1, hst2⟩ := T4.lot _ _ S hta hSi
  refine ⟨_, fun _ _ h => h, ?_⟩
  refine ⟨_, rfl, _, rfl, ra, _, rfl, .inl (SqL.of T4.hra), lo, lt.map V.ref, _, .ref lt[rowsL.length], rfl, rfl, SqL.of T4.hlo, ?_, lt[rowsL.length], _, rfl, .inl (.inl hst1), rfl, _, _, rfl, _, _, rfl, rfl, ?_⟩
  · rw [List.length_map, T4.rsl]
    exact atI_nat (by rw [List.getElem?_map, hta]; rfl)
  -- some
  refine ⟨_, rfl, ea, _, rfl, SqL.of T4.hea, fun D nD => ?_⟩
  refine lc_fm (walk_enum (K := K) (a := ea) (xs := [nV late])) nD (fun i => .int (i : Nat)) (fun _ => decide (late ∈ S)) (show 1 < sizeLine by decide) (fun H5 s5 => SqL.of (s5 _ _ T4.hea)) ?_ ?_
  · rintro i y H5 H6 hi s5 ⟨Tp, x1, x2, rfl, nT, rfl, f1, f2⟩ R R0 hR hR0
    obtain rfl : V.int (i : Nat) = x1 := Option.some.inj f1
    have hi0 : i = 0 := by simpa using hi
    subst hi0
    obtain rfl : nV late = x2 := by simpa using f2
    have s6 := same_new nT (.tup [V.int ((0 : Nat) : Int), nV late])
    refine ⟨Tp, _, rfl, SqT.new, rfl, _, _, rfl, _, _, rfl, rfl, rfl, ?_⟩
    refine ⟨_, rfl, _, rfl, st, _, rfl, .inr (.inl (.inl (s6 _ _ (s5 _ _ hst2)))), rfl, flat_nV S, decide (late ∈ S), congrArg V.bl (inV_nV S _), ?_⟩
    cases h2 : decide (late ∈ S) with
    | false => exact iteF (hR0 h2 _ s6)
    | true => exact iteT ⟨_, rfl, hR h2 _ s6⟩
  intro H5 s5 hD
  have T5 := T4.same s5
  obtain ⟨F, hF1, hF2⟩ : ∃ F : List Nat, H5 D = some (.lst (F.map nV)) ∧ (!decide (F = [])) = decide (late ∈ S) := by
    by_cases z : late ∈ S
    · refine ⟨[0], ?_, by rw [decide_eq_true z]; rfl⟩
      rw [hD, decide_eq_true z]
      rfl
    · refine ⟨[], ?_, by rw [decide_eq_false z]; rfl⟩
      rw [hD, decide_eq_false z]
      rfl
  refine ⟨_, rfl, false, rfl, iteF ?_⟩
  refine ⟨_, rfl, .inl ⟨rfl, _, SqL.of T5.hma⟩, _, rfl, two 0 (by decide), fun pe npe => ?_⟩
  have s6 := same_new npe (.lst [])
  have T6 := T5.same s6
  refine ⟨dIs F, dIs [], dp_dIs (SqL.of (s6 _ _ hF1)), dp_dIs (L := []) (SqL.of upd_same), shaped_dIs _, shaped_dIs _, ma, _, _, rfl, rfl, T6.hma, by rw [List.length_map, hml, sizeLine_eq]; omega, ?_⟩
  rw [eqv_dIs, hF2]
  have T7 := T6.addMark (decide (late ∈ S))
  have sH6 := (sH4.trans s5).trans s6
  have sH7 : Same H (upd (upd H5 pe (.lst [])) ma (.lst (ms.map V.bl ++ [.bl (decide (late ∈ S))]))) := fun b o e => by
    rw [upd_ne (ne_of_none e new3.2.2)]
    exact sH6 _ _ e
  have hst7 : (upd (upd H5 pe (.lst [])) ma (.lst (ms.map V.bl ++ [.bl (decide (late ∈ S))]))) st = some (.tup (S.map nV)) := by
    have e6 := s6 _ _ (s5 _ _ hst2)
    rw [upd_ne (ne_of e6 T6.hma fun z => nomatch z)]
    exact e6
  generalize (upd (upd H5 pe (.lst [])) ma (.lst (ms.map V.bl ++ [.bl (decide (late ∈ S))]))) = H7 at *
  -- row = []
  refine ⟨two 0 (by decide), fun rl nrl => ?_⟩
  have s8 := same_new nrl (.lst [])
  have T8 := T7.same s8
  have hrl8 : (upd H7 rl (.lst [])) rl = some (.lst []) := upd_same
  have hst8 := s8 _ _ hst7
  have sH8 := sH7.trans s8
  have nrlH : H rl = none := sH7.free nrl
  obtain ⟨es7, hes7, _⟩ := T7.net.len
  have hrne : na ≠ rl ∧ el ≠ rl ∧ ea ≠ rl ∧ lo ≠ rl ∧ ra ≠ rl ∧ ma ≠ rl := ⟨ne_of_none T7.net.top nrl, ne_of_none hes7 nrl, ne_of_none T7.hea nrl, ne_of_none T7.hlo nrl, ne_of_none T7.hra nrl, ne_of_none T7.hma nrl⟩
  have hrrs : rl ∉ rs := fun z => by
    obtain ⟨i, hi⟩ := List.getElem?_of_mem z
    have hil : i < rowsL.length := by
      rw [← T7.rsl]
      exact (List.getElem?_eq_some_iff.mp hi).1
    have := T7.row i rl _ hi (List.getElem?_eq_getElem hil)
    rw [nrl] at this
    cases this
  generalize (upd H7 rl (.lst [])) = H8 at *
  refine ⟨_, rfl, ((k : Nat) : Int), rfl, _, rfl, by decide, _, rfl, ?_⟩
  rw [abc_eq, cut_abc k hk3]
  refine for_it (walk_str (z := tx (List.range k))) (fun l σ H9 => ∃ (Ls' : List (List Nat)) (lt' : List Addr) (row : List Nat) (v14 v15 : Option V), l ≤ k ∧ σ = [some (nV k), some (.ref pl), some (.bl false), some (.ref na), some (.ref ea), v5, v6, some (.ref lo), some (.ref ra), some (.ref ma), some (.bl false), some (.ref st), some (.ref D), some (.ref rl), v14, v15, none, none] ∧
      Same H H9 ∧ TbS K na el ea lo ra ma c' late EE H9 Ls' lt' rs rowsL (ms ++ [decide (late ∈ S)]) ∧ LotsOk EE k Ls' rowsL ∧ Ls <+: Ls' ∧ H9 st = some (.tup (S.map nV)) ∧ H9 rl = some (.lst (row.map nV)) ∧ row.length = l ∧ ∀ (l' x : Nat), row[l']? = some x → ∃ S', Ls'[x]? = some S' ∧ Srt S' (Cl EE (StepTo EE S l')))
    ⟨Ls, lt, [], v14, v15, Nat.zero_le _, rfl, sH8, T8, L4, List.prefix_refl _, hst8, hrl8, rfl, fun l' x h => by simp at h⟩ (fun _ _ _ _ _ => trivial) ?_ ?_
  · rintro l v σ H9 H10 hl ⟨Ls', lt', row, v14, v15, hlk, rfl, sH9, T9, L9, hpre, hst9, hrl9, hrow9, hrf⟩ ⟨rfl, cc, hcc, rfl⟩
    rw [tx_size, List.length_range] at hl
    rw [tx_at, List.getElem?_range hl] at hcc
    obtain rfl : l + 97 = cc := Option.some.inj hcc
    have hL9 := L9.le hone
    have hpl9 := hpre.length_le
    refine ⟨_, rfl, _, rfl, _, rfl, _, rfl, na, el, st, c', EE, S, l, rfl, T9.net, by omega, by omega, htg, .inl (.inl hst9), fun S' t1 H11 hS' s11 nt1 ht1 => ⟨two 2 (by decide), fun tq ntq => ?_⟩⟩
    have s12 := s11.trans (same_new ntq (.tup [V.bl false, V.ref t1]))
    have T12 := T9.same s12
    have hst12 := s12 _ _ hst9
    have hrl12 := s12 _ _ hrl9
    have LA : LotAt (upd H11 tq (.tup [V.bl false, V.ref t1])) tq S' := ⟨t1, upd_same, same_new ntq _ _ _ ht1⟩
    have sH12 := sH9.trans s12
    generalize (upd H11 tq (.tup [V.bl false, V.ref t1])) = H12 at *
    have dpl : ∀ (H : Hp) (Ls' : List (List Nat)) (lt' : List Addr) (ms : List Bool), TbS K na el ea lo ra ma c' late EE H Ls' lt' rs rowsL ms → Dp K H (.ref lo) (.list (Ls'.map dLt)) := fun H Ls' lt' ms T => .lst (SqL.of T.hlo) (dpAll_of dLt (lt'.map V.ref) Ls' (by rw [List.length_map]; exact T.ltl) fun j v S h1 h2 => by
      rw [List.getElem?_map] at h1
      cases e : lt'[j]? with
      | none =>
        rw [e] at h1
        cases h1
      | some a =>
        rw [e] at h1
        obtain rfl := Option.some.inj h1
        exact (T.lot j a S e h2).dp)
    refine ⟨_, rfl, _, rfl, dLt S', _, LA.dp, dpl _ _ _ _ T12, (smD_dLt S').sh, shaped_list dLt Ls' fun S _ => smD_dLt S, _, rfl, ?_⟩
    rw [any_dec dLt eqv_dLt]
    refine ifs_cut (fun σ H13 => ∃ (Ls2 : List (List Nat)) (lt2 : List Addr), σ = [some (nV k), some (.ref pl), some (.bl false), some (.ref na), some (.ref ea), v5, v6, some (.ref lo), some (.ref ra), some (.ref ma), some (.bl false), some (.ref st), some (.ref D), some (.ref rl), some (.str (sg l)), some (.ref tq), none, none] ∧
        Same H H13 ∧ TbS K na el ea lo ra ma c' late EE H13 Ls2 lt2 rs rowsL (ms ++ [decide (late ∈ S)]) ∧ LotsOk EE k Ls2 rowsL ∧ Ls' <+: Ls2 ∧ H13 st = some (.tup (S.map nV)) ∧ H13 rl = some (.lst (row.map nV)) ∧ LotAt H13 tq S' ∧ S' ∈ Ls2) (fun c1 hk => ?_) (fun c1 => ?_) ?_
    · have c1 : S' ∉ Ls' := by simpa using c1
      refine ⟨_, rfl, .inl ⟨rfl, _, SqL.of T12.hlo⟩, _, rfl, lo, _, _, rfl, rfl, T12.hlo, by rw [List.length_map, T12.ltl, sizeLine_eq]; omega, ?_⟩
      refine hk _ _ ⟨Ls' ++ [S'], lt' ++ [tq], rfl, fun b o e => ?_, T12.addLot LA, L9.add (by omega) c1 (step_mask hS'), List.prefix_append _ _, ?_, ?_, LA.upd T12.hlo, List.mem_append_right _ (List.mem_singleton.mpr rfl)⟩
      · rw [upd_ne (ne_of_none e new3.1)]
        exact sH12 _ _ e
      · rw [upd_ne (ne_of hst12 T12.hlo fun z => nomatch z)]
        exact hst12
      · rw [upd_ne hrne.2.2.2.1.symm]
        exact hrl12
    · have c1 : S' ∈ Ls' := by simpa using c1
      exact ⟨Ls', lt', rfl, sH12, T12, L9, List.prefix_refl _, hst12, hrl12, LA, c1⟩
    rintro σ H13 ⟨Ls2, lt2, rfl, sH13, T13, L13, hpre2, hst13, hrl13, LA13, hin⟩
    have hL13 := L13.le hone
    have hix := List.idxOf_lt_length_of_mem hin
    have hgx : Ls2[Ls2.idxOf S']? = some S' := by rw [List.getElem?_eq_getElem hix, List.getElem_idxOf hix]
    refine ⟨_, rfl, .inl ⟨rfl, _, SqL.of hrl13⟩, _, rfl, .inl ⟨rfl, _, SqL.of T13.hlo⟩, _, rfl, lo, .ref tq, dLt S', Ls2.map dLt, Ls2.idxOf S', dLt S', rfl, rfl, dpl _ _ _ _ T13, LA13.dp, shaped_list dLt Ls2 fun S _ => smD_dLt S, (smD_dLt S').sh, by rw [List.getElem?_map, hgx]; rfl, by rw [eqv_dLt]; exact decide_eq_true rfl, fun j z hj hz => ?_, ?_⟩
    · have hjl : j < Ls2.length := by omega
      rw [List.getElem?_map, List.getElem?_eq_getElem hjl] at hz
      obtain rfl := Option.some.inj hz
      rw [eqv_dLt]
      refine decide_eq_false fun e => ?_
      have e2 := L13.nd.idxOf_getElem j hjl
      rw [e] at e2
      omega
    refine ⟨rl, _, _, rfl, rfl, hrl13, by rw [List.length_map, sizeLine_eq]; omega, ?_⟩
    have upS : ∀ (i : Nat) (T : List Nat), Ls'[i]? = some T → Ls2[i]? = some T := fun i T e => pre_get hpre2 e
    refine ⟨Ls2, lt2, row ++ [Ls2.idxOf S'], _, _, hl, rfl, fun b o e => ?_, T13.other hrl13 _ hrne hrrs, L13, hpre.trans hpre2, ?_, by rw [upd_same, List.map_append]; rfl, by rw [List.length_append, hrow9]; rfl, fun l' x hx => ?_⟩
    · rw [upd_ne (ne_of_none e nrlH)]
      exact sH13 _ _ e
    · rw [upd_ne (ne_of hst13 hrl13 fun z => nomatch z)]
      exact hst13
    · by_cases hlt' : l' < row.length
      · rw [List.getElem?_append_left hlt'] at hx
        obtain ⟨T, h1, h2⟩ := hrf l' x hx
        exact ⟨T, upS _ _ h1, h2⟩
      · rw [List.getElem?_append_right (by omega)] at hx
        have hz : l' - row.length = 0 := by
          have := (List.getElem?_eq_some_iff.mp hx).1
          simp at this
          omega
        rw [hz] at hx
        obtain rfl : Ls2.idxOf S' = x := by simpa using hx
        have : l' = l := by omega
        rw [this]
        exact ⟨S', hgx, hS'⟩
  · rintro σ H9 ⟨Ls', lt', row, v14, v15, hlk, rfl, sH9, T9, L9, hpre, hst9, hrl9, hrow9, hrf⟩
    rw [tx_size, List.length_range] at hrow9
    have hL9 := L9.le hone
    have hpl9 := hpre.length_le
    refine ⟨_, rfl, .inl ⟨rfl, _, SqL.of T9.hra⟩, _, rfl, ra, _, _, rfl, rfl, T9.hra, by rw [List.length_map, T9.rsl, sizeLine_eq]; omega, ?_⟩
    refine ⟨34 - (rowsL ++ [row]).length, by rw [List.length_append, hm]; show 34 - (rowsL.length + 1) < _; omega, Ls', lt', rs ++ [rl], rowsL ++ [row], ms ++ [decide (late ∈ S)], _, _, _, _, _, _, rfl, by rw [List.length_append]; show rowsL.length + 1 ≤ _; omega, by rw [List.length_append, List.length_append, hml]; rfl, rfl, fun b o e => ?_, T9.addRow hrl9 ⟨hrne.2.2.2.1.symm, hrne.2.2.2.2.1.symm, hrne.2.2.2.2.2.symm⟩, L9.addRow (pre_get hpre hSi) hrow9 hrf, fun i T b h1 h2 => ?_⟩
    · rw [upd_ne (ne_of_none e new3.2.1)]
      exact sH9 _ _ e
    · by_cases hi : i < ms.length
      · rw [List.getElem?_append_left hi] at h2
        have hiL : i < Ls.length := by omega
        have h3 : Ls'[i]? = some Ls[i] := pre_get hpre (List.getElem?_eq_getElem hiL)
        rw [h3] at h1
        obtain rfl := Option.some.inj h1
        exact hms i _ b (List.getElem?_eq_getElem hiL) h2
      · rw [List.getElem?_append_right (by omega)] at h2
        have hz : i - ms.length = 0 := by
          have := (List.getElem?_eq_some_iff.mp h2).1
          simp at this
          omega
        rw [hz] at h2
        have e : i = rowsL.length := by omega
        rw [e, pre_get hpre hSi] at h1
        obtain rfl := Option.some.inj h1
        obtain rfl : decide (late ∈ S) = b := by simpa using h2
        rfl
end
end Own
namespace Own
open PySem PySem.Spec PyProof.Rows L2
/-- all texts up to a length -/
def allT (k m : Nat) : List Word := (List.range (m + 1)).flatMap (texts k)
theorem allT_succ (k m : Nat) : allT k (m + 1) = allT k m ++ texts k (m + 1) := by
  unfold allT
  rw [List.range_succ (n := m + 1), List.flatMap_append]
  simp
theorem mem_allT {k m : Nat} {w : Word} : w ∈ allT k m ↔ w.length ≤ m ∧ Wd k w := by
  unfold allT
  rw [List.mem_flatMap]
  constructor
  · rintro ⟨i, hi, h⟩
    obtain ⟨h1, h2⟩ := mem_texts.mp h
    have := List.mem_range.mp hi
    exact ⟨by omega, h2⟩
  · rintro ⟨h1, h2⟩
    exact ⟨w.length, List.mem_range.mpr (by omega), mem_texts.mpr ⟨rfl, h2⟩⟩
theorem pow3 {k i : Nat} (hk : k ≤ 3) (hi : i ≤ 4) : k ^ i ≤ 81 := by
  have h1 : k ^ i ≤ 3 ^ i := Nat.pow_le_pow_left hk i
  have h2 : 3 ^ i ≤ 3 ^ 4 := Nat.pow_le_pow_right (by decide) hi
  omega
section
variable {P : Program} {w : World} {K : PySem.W.Frag} {mg : Str → Option Value} {base : Heap}
abbrev s_law_lead : Stmt := topS 66
theorem sc_law_lead : FnScope ["rows", "stand", "text", "letter"] ["rows", "stand", "text"] (defScope s_law_lead) := ⟨rfl, rfl, rfl, by decide +kernel, rfl, by decide +kernel, by decide +kernel⟩
def sp_law_lead (K : PySem.W.Frag) : Sp := fun vs H Q _ => ∃ (r : Addr) (T : Tab) (k n s : Nat) (u : Word), vs = [.ref r, nV s, .str (tx u)] ∧ RowsAt K H r T.rows ∧ T.Ok k n ∧ s < n ∧ Wd k u ∧ u.length ≤ 100000 ∧ Q (nV (T.run s u)) H
theorem ok_law_lead {f : Addr} {fd : FuncData} (F : Fun K "_law_lead" "_law_lead" s_law_lead f fd) (B : Bt mg) : FnOk P w K mg base CX0 1 f fd ["rows", "stand", "text"] (sp_law_lead K) := by
  refine F.ok sc_law_lead (fun vs H Q E h => ?_) (fun cdv A outer s0 H vs Q E hr h => ?_)
  · obtain ⟨r, T, k, n, s, u, rfl, _⟩ := h
    rfl
  obtain ⟨r, T, k, n, s, u, rfl, A1, O, hs, hu, hul, q⟩ := h
  have hk3 := O.k3
  refine ⟨_, (pss_cons (ps_for PassesOwn.never rfl (pi_str (pv 2)) (pg_name (i := 3) sc_law_lead.nd rfl (Or.inl rfl)) (pss_one (ps_set (i := 1) sc_law_lead.nd rfl (Or.inl rfl) (p_ixt K (p_ixt K (pv 0) (pv 1)) (p_six K pe_str (pa_cons (pv 3) pa_nil)))))) (pss_one (ps_ret (pv 1)))), ?_⟩
  refine ⟨_, rfl, _, rfl, for_it (walk_str (z := tx u)) (fun i σ H2 => ∃ v, σ = [some (.ref r), some (nV (T.run s (u.take i))), some (.str (tx u)), v] ∧ H2 = H)
    ⟨none, rfl, rfl⟩ (fun _ _ _ _ _ => trivial) ?_ ?_⟩
  · rintro i x σ H2 H3 hi ⟨v, rfl, rfl⟩ ⟨rfl, c, hc, rfl⟩
    rw [tx_size] at hi
    rw [tx_at, List.getElem?_eq_getElem hi] at hc
    obtain rfl : u[i] + 97 = c := Option.some.inj hc
    have hy : u[i] < k := hu _ (List.getElem_mem hi)
    have hsi : T.run s (u.take i) < n := O.run_lt hs fun z hz => hu z (List.mem_of_mem_take hz)
    obtain ⟨a, xs, h1, h2, h3, _, h4⟩ := A1.get (s := T.run s (u.take i)) (by rw [O.rl]; exact hsi)
    refine ⟨_, rfl, _, rfl, r, _, _, _, rfl, rfl, h1, h3, ?_⟩
    refine ⟨rfl, _, rfl, _, _, rfl, rfl, fun z hz => ?_, fun hz => ?_⟩
    · have hz : Txt.index0 (tx [0, 1, 2]) (sg u[i]) = some z := by rw [← abc_eq]; exact hz
      rw [ix_abc _ (by omega)] at hz
      obtain rfl := Option.some.inj hz
      refine ⟨a, _, _, _, rfl, rfl, h4, O.at_st hsi hy, some (.str ⟨#[u[i] + 97]⟩), ?_, rfl⟩
      rw [List.take_add_one, List.getElem?_eq_getElem hi, Tab.run_append]
      rfl
    · have hz : Txt.index0 (tx [0, 1, 2]) (sg u[i]) = none := by rw [← abc_eq]; exact hz
      rw [ix_abc _ (by omega)] at hz
      cases hz
  · rintro σ H2 ⟨v, rfl, rfl⟩
    refine ⟨_, rfl, ?_⟩
    rw [tx_size, List.take_length]
    exact q
abbrev s_law_texts : Stmt := topS 67
theorem sc_law_texts : FnScope ["size", "most", "found", "last", "turn", "late", "text", "letter"] ["size", "most"] (defScope s_law_texts) := ⟨rfl, rfl, rfl, by decide +kernel, rfl, by decide +kernel, by decide +kernel⟩
def sp_law_texts : Sp := fun vs H Q _ => ∃ k : Nat, vs = [nV k, .int 4] ∧ k ≤ 3 ∧ ∀ (l : Addr) (H' : Hp), Same H H' → H l = none → H' l = some (.lst ((allT k 4).map fun u => V.str (tx u))) → Q (.ref l) H'
theorem ok_law_texts {f : Addr} {fd : FuncData} (F : Fun K "_law_texts" "_law_texts" s_law_texts f fd) (B : Bt mg) : FnOk P w K mg base CX0 1 f fd ["size", "most"] sp_law_texts := by
  refine F.ok sc_law_texts (fun vs H Q E h => ?_) (fun cdv A outer s0 H vs Q E hr h => ?_)
  · obtain ⟨k, rfl, _⟩ := h
    rfl
  obtain ⟨k, rfl, hk, q⟩ := h
  have two : ∀ n, n ≤ 10 → n ≤ sizeLine := fun n h => Nat.le_of_lt (small1000 (by omega))
  refine ⟨_, (pss_cons (ps_par (i := 2) (j := 3) rfl sc_law_texts.nd rfl rfl (by decide) rfl rfl (pa_cons (pe_lst (pa_cons pe_str pa_nil)) (pa_cons (pe_lst (pa_cons pe_str pa_nil)) pa_nil)) (by rfl)) (pss_cons (ps_for PassesOwn.never rfl (pi_range1 (by rfl) B.range (pa_cons (pv 1) pa_nil)) (pg_name (i := 4) sc_law_texts.nd rfl (Or.inl rfl)) (pss_cons (ps_set (i := 5) sc_law_texts.nd rfl (Or.inl rfl) (pe_lst pa_nil)) (pss_cons (ps_for PassesOwn.never rfl (p_list K (pv 3)) (pg_name (i := 6) sc_law_texts.nd rfl (Or.inr rfl)) (pss_one (ps_set (i := 5) sc_law_texts.nd rfl (Or.inl rfl) (pe_op op_cat (pv 5) (pe_lc (own := [("letter", 7)]) rfl sc_law_texts.nd (pi_str (pe_slice sl_str pe_str po_none (po_some (pv 0)))) (blkOk_by (by kernel_rfl)) (fun _ _ _ _ _ => (pg_name (i := 7) sc_law_texts.nd rfl (Or.inl rfl))) (fun _ _ _ _ _ => pts_nil) (fun _ _ _ _ _ => (pe_op op_add_str (pv 6) (pv 7)))))))) (pss_one (ps_par (i := 2) (j := 3) rfl sc_law_texts.nd rfl rfl (by decide) rfl rfl (pa_cons (pe_op op_cat (pv 2) (pv 5)) (pa_cons (pv 5) pa_nil)) (by rfl)))))) (pss_one (ps_ret (pv 2))))), ?_⟩
  rw [empty_eq]
  refine ⟨two 1 (by decide), fun l1 n1 => ⟨two 1 (by decide), fun l2 n2 => ⟨_, _, rfl, ?_⟩⟩⟩
  have s1 := same_new n1 (.lst [V.str (tx [])])
  have s2 := same_new n2 (.lst [V.str (tx [])])
  refine ⟨_, rfl, _, rfl, by omega, by omega, for_range (lo := 0) (n := 4) (fun i σ H1 => ∃ (la lb : Addr) (v4 v5 v6 : Option V), i ≤ 4 ∧ σ = [some (nV k), some (.int 4), some (.ref la), some (.ref lb), v4, v5, v6, none] ∧ Same H H1 ∧ H la = none ∧ H1 la = some (.lst ((allT k i).map fun u => V.str (tx u))) ∧ H1 lb = some (.lst ((texts k i).map fun u => V.str (tx u))))
    ⟨l1, l2, none, none, none, Nat.zero_le _, rfl, s1.trans s2, n1, s2 _ _ upd_same, upd_same⟩ ?_ ?_⟩
  · rintro i σ H1 hi ⟨la, lb, v4, v5, v6, _, rfl, sH, nla, hla, hlb⟩
    have hp := pow3 hk (show i ≤ 4 by omega)
    refine ⟨two 0 (by decide), fun l5 n5 => ?_⟩
    have s5 := same_new n5 (.lst [])
    refine ⟨_, rfl, lb, rfl, ⟨_, SqL.of (s5 _ _ hlb)⟩, ?_⟩
    refine for_list (K := K) (a := lb) (xs := (texts k i).map fun u => V.str (tx u)) (fun j σ H2 => ∃ (l5 : Addr) (v6 : Option V), σ = [some (nV k), some (.int 4), some (.ref la), some (.ref lb), some (.int (0 + (i : Nat))), some (.ref l5), v6, none] ∧ Same H1 H2 ∧ H1 l5 = none ∧ H2 l5 = some (.lst ((ext k ((texts k i).take j)).map fun u => V.str (tx u))))
      ⟨l5, v6, rfl, s5, n5, upd_same⟩ (fun j σ H2 _ h => ?_) ?_ ?_
    · obtain ⟨_, _, _, h, _⟩ := h
      exact SqL.of (h _ _ hlb)
    · rintro j x σ H2 hx ⟨l5, v6, rfl, sH2, n5', hl5⟩
      rw [List.getElem?_map] at hx
      cases e : (texts k i)[j]? with
      | none =>
        rw [e] at hx
        cases hx
      | some u =>
      rw [e] at hx
      obtain rfl : V.str (tx u) = x := Option.some.inj hx
      have hj : j < (texts k i).length := (List.getElem?_eq_some_iff.mp e).1
      rw [texts_length] at hj
      obtain ⟨hul, huw⟩ := mem_texts.mp (List.mem_of_getElem? e)
      refine ⟨_, rfl, _, rfl, ((k : Nat) : Int), rfl, _, rfl, by decide, _, rfl, fun D nD => ?_⟩
      rw [abc_eq, cut_abc k hk]
      refine lc_map (walk_str (z := tx (List.range k))) nD (fun l => V.str (tx (u ++ [l]))) (by rw [tx_size, List.length_range]; exact small1000 (by omega)) (fun _ _ => trivial) ?_ ?_
      · rintro l v H3 H4 hl s3 ⟨rfl, c, hc, rfl⟩ R hR
        rw [tx_size, List.length_range] at hl
        rw [tx_at, List.getElem?_range hl] at hc
        obtain rfl : l + 97 = c := Option.some.inj hc
        refine ⟨rfl, _, rfl, _, rfl, _, _, rfl, rfl, by rw [tx_length]; show u.length + 1 ≤ sizeLine; exact Nat.le_of_lt (small1000 (by omega)), ?_⟩
        have e2 : tx u ++ (⟨#[l + 97]⟩ : Str) = tx (u ++ [l]) := tx_append u [l]
        rw [e2]
        exact hR _ (Same.refl _)
      · intro H3 s3 e3
        rw [tx_size, List.length_range] at e3
        have hlen : (ext k ((texts k i).take j)).length ≤ j * k := by
          unfold ext
          rw [List.length_flatMap]
          have : ((texts k i).take j).map (fun w => ((List.range k).map fun l => w ++ [l]).length) = ((texts k i).take j).map fun _ => k := List.map_congr_left fun w _ => by rw [List.length_map, List.length_range]
          rw [this, List.map_const', List.sum_replicate_nat, List.length_take]
          exact Nat.mul_le_mul_right _ (Nat.min_le_left _ _)
        have hjk : j * k ≤ 81 * 3 := Nat.mul_le_mul (by omega) hk
        refine ⟨l5, D, _, _, rfl, rfl, s3 _ _ hl5, e3, ?_, fun l6 n6 => ?_⟩
        · rw [List.length_map, List.length_map, List.length_range, sizeLine_eq]
          omega
        refine ⟨l6, _, rfl, sH2.trans (s3.trans (same_new n6 _)), (sH2.trans s3).free n6, ?_⟩
        rw [upd_same, List.take_add_one, e]
        unfold ext
        rw [List.flatMap_append, List.map_append]
        simp only [Option.toList_some, List.flatMap_cons, List.flatMap_nil, List.append_nil, List.map_map]
        rfl
    · rintro σ H2 ⟨l5, v6, rfl, sH2, n5', hl5⟩
      rw [List.length_map, List.take_length, ext_texts] at hl5
      have hla2 := sH2 _ _ hla
      have ht1 : (texts k (i + 1)).length ≤ 81 := by rw [texts_length]; exact pow3 hk (by omega)
      have hAl : (allT k i).length ≤ 1000 := by
        unfold allT
        rw [List.length_flatMap]
        have : ∀ m, m ≤ 5 → ((List.range m).map fun j => (texts k j).length).sum ≤ m * 81 := by
          intro m
          induction m with
          | zero => intro _; simp
          | succ m ih =>
            intro hm
            rw [List.range_succ, List.map_append, List.sum_append]
            have := ih (by omega)
            have h2 : (texts k m).length ≤ 81 := by rw [texts_length]; exact pow3 hk (by omega)
            simp
            omega
        have := this (i + 1) (by omega)
        have h3 : (i + 1) * 81 ≤ 5 * 81 := Nat.mul_le_mul_right _ (by omega)
        omega
      refine ⟨_, rfl, _, rfl, la, l5, _, _, rfl, rfl, hla2, hl5, ?_, fun l6 n6 => ?_⟩
      · rw [List.length_map, List.length_map, sizeLine_eq]
        omega
      refine ⟨_, rfl, _, _, rfl, l6, l5, _, _, _, by omega, rfl, (sH.trans sH2).trans (same_new n6 _), (sH.trans sH2).free n6, ?_, same_new n6 _ _ _ hl5⟩
      rw [upd_same, allT_succ, List.map_append]
  · rintro σ H1 ⟨la, lb, v4, v5, v6, _, rfl, sH, nla, hla, hlb⟩
    exact ⟨_, rfl, q la H1 sH nla hla⟩
end
end Own
namespace Own
open PySem PySem.Spec PyProof.Rows L2
section
variable {P : Program} {w : World} {K : PySem.W.Frag} {mg : Str → Option Value} {base : Heap}
abbrev s_law_is_no_word : Stmt := topS 68
theorem sc_law_is_no_word : FnScope ["table", "text"] ["table", "text"] (defScope s_law_is_no_word) := ⟨rfl, rfl, rfl, by decide +kernel, rfl, by decide +kernel, by decide +kernel⟩
def sp_law_is_no_word (K : PySem.W.Frag) : Sp := fun vs H Q _ => ∃ (t r e : Addr) (T : Tab) (k n : Nat) (u : Word), vs = [.ref t, .str (tx u)] ∧ TabAt K H t r e T ∧ T.Ok k n ∧ Wd k u ∧ u.length ≤ 100000 ∧ T.acc 0 u = false ∧ ∀ H', Same H H' → Q (.bl true) H'
theorem ok_law_is_no_word {f C : Addr} {fd : FuncData} (F : Fun K "_law_is_no_word" "_law_is_no_word" s_law_is_no_word f fd) (B : Bt mg) (TB : ExcT K mg "NoWord" C) (C_word_index : GotX P w K mg base 6 "word_index" ["table", "text"] (sp_word_index K C)) : FnOk P w K mg base CX0 7 f fd ["table", "text"] (sp_law_is_no_word K) := by
  refine F.ok sc_law_is_no_word (fun vs H Q E h => ?_) (fun cdv A outer s0 H vs Q E hr h => ?_)
  · obtain ⟨t, r, e, T, k, n, u, rfl, _⟩ := h
    rfl
  obtain ⟨t, r, e, T, k, n, u, rfl, A1, O, hu, hl, hacc, q⟩ := h
  refine ⟨_, pss_one (ps_try_onlyE (pss_one (ps_ret pe_bl)) rfl rfl ⟨rfl, by decide, .inl TB.gC⟩ takes0 (fun W pn xe tk _ => pss_one (ps_expr (C_word_index.callX tk hr (by rfl) (pa_cons (pv 0) (pa_cons (pv 1) pa_nil))))) (fun a oe cls d pn _ _ => pss_one (ps_ret pe_bl))), ?_⟩
  refine ⟨_, rfl, _, rfl, t, r, e, T, k, n, u, rfl, A1, O, hu, hl, fun h => ?_, fun _ H' s' => ⟨true, TB.te, fun _ a ha => q H' s', fun z => nomatch z⟩⟩
  rw [hacc] at h
  cases h
abbrev s_law_is_beyond : Stmt := topS 69
theorem sc_law_is_beyond : FnScope ["table", "index"] ["table", "index"] (defScope s_law_is_beyond) := ⟨rfl, rfl, rfl, by decide +kernel, rfl, by decide +kernel, by decide +kernel⟩
def sp_law_is_beyond (K : PySem.W.Frag) : Sp := fun vs H Q _ => ∃ (t r e : Addr) (T : Tab) (k n : Nat) (i : Int), vs = [.ref t, .int i] ∧ TabAt K H t r e T ∧ T.Ok k n ∧ (i < 0 ∨ ∃ (i' m : Nat), i = (i' : Int) ∧ m ≤ 1000000 ∧ ¬ Alive T k m ∧ sumW T k m ≤ i') ∧ ∀ H', Same H H' → Q (.bl true) H'
theorem ok_law_is_beyond {f C : Addr} {fd : FuncData} (F : Fun K "_law_is_beyond" "_law_is_beyond" s_law_is_beyond f fd) (B : Bt mg) (TB : ExcT K mg "BadIndex" C) (C_nth_word : GotX P w K mg base 6 "nth_word" ["table", "index"] (sp_nth_word K C)) : FnOk P w K mg base CX0 7 f fd ["table", "index"] (sp_law_is_beyond K) := by
  refine F.ok sc_law_is_beyond (fun vs H Q E h => ?_) (fun cdv A outer s0 H vs Q E hr h => ?_)
  · obtain ⟨t, r, e, T, k, n, i, rfl, _⟩ := h
    rfl
  obtain ⟨t, r, e, T, k, n, i, rfl, A1, O, hi, q⟩ := h
  refine ⟨_, pss_one (ps_try_onlyE (pss_one (ps_ret pe_bl)) rfl rfl ⟨rfl, by decide, .inl TB.gC⟩ takes0 (fun W pn xe tk _ => pss_one (ps_expr (C_nth_word.callX tk hr (by rfl) (pa_cons (pv 0) (pa_cons (pv 1) pa_nil))))) (fun a oe cls d pn _ _ => pss_one (ps_ret pe_bl))), ?_⟩
  refine ⟨_, rfl, _, rfl, t, r, e, T, k, n, i, rfl, A1, O, ?_⟩
  have bad : ∀ H', Same H H' → WE (wOnly K (.ref C) (fun _ _ _ => tRet (tC (V.bl true))) (fun _ _ _ _ => False) { nx := fun _ H' => Q V.non H', rt := Q }) [some (.ref t), some (.int i)] (.ref C) none H' := fun H' s' => ⟨true, TB.te, fun _ a ha => q H' s', fun z => nomatch z⟩
  rcases hi with hi | ⟨i', m, h1, h2, h3, h4⟩
  · exact .inr (.inl ⟨hi, bad⟩)
  · exact .inr (.inr ⟨i', m, h1, h2, h3, h4, bad⟩)
end
end Own
namespace Own
open PySem PySem.Spec PyProof.Rows L2
section
variable {P : Program} {w : World} {K : PySem.W.Frag} {mg : Str → Option Value} {base : Heap}
abbrev s_law_first : Stmt := topS 70
theorem sc_law_first : FnScope ["size", "table", "line", "seen", "at", "text", "stand", "letter", "there"] ["size", "table"] (defScope s_law_first) := ⟨rfl, rfl, rfl, by decide +kernel, rfl, by decide +kernel, by decide +kernel⟩
def sp_law_first (K : PySem.W.Frag) : Sp := fun vs H Q _ => ∃ (t r e : Addr) (T : Tab) (k n : Nat), vs = [nV k, .ref t] ∧ TabAt K H t r e T ∧ T.Ok k n ∧ ∀ H', Same H H' → Q (match fstW T k n with | some u => .str (tx u) | none => .non) H'
/-- the line of texts and stands in the heap -/
structure LineAt (H : Hp) (li se : Addr) (ts : List Addr) (Fa : Acc) : Prop where
  hli : H li = some (.lst (ts.map V.ref))
  hse : H se = some (.lst ((Fa.map (·.1)).map nV))
  len : ts.length = Fa.length
  it : ∀ (j : Nat) (a : Addr) (p : Nat × Word), ts[j]? = some a → Fa[j]? = some p → H a = some (.tup [.str (tx p.2), nV p.1])
  ne : li ≠ se
theorem LineAt.same {H H' : Hp} {li se : Addr} {ts : List Addr} {Fa : Acc} (h : LineAt H li se ts Fa) (s : Same H H') : LineAt H' li se ts Fa := ⟨s _ _ h.hli, s _ _ h.hse, h.len, fun j a p h1 h2 => s _ _ (h.it j a p h1 h2), h.ne⟩
/-- seen.append(there), line.append((text + letter, there)) -/
theorem LineAt.add {H : Hp} {li se : Addr} {ts : List Addr} {Fa : Acc} (h : LineAt H li se ts Fa) (x : Nat) (u : Word) {tp : Addr} (np : (upd H se (.lst (((Fa.map (·.1)).map nV) ++ [nV x]))) tp = none) :
    (upd (upd H se (.lst (((Fa.map (·.1)).map nV) ++ [nV x]))) tp (.tup [.str (tx u), nV x])) li = some (.lst (ts.map V.ref)) ∧ LineAt (upd (upd (upd H se (.lst (((Fa.map (·.1)).map nV) ++ [nV x]))) tp (.tup [.str (tx u), nV x])) li (.lst (ts.map V.ref ++ [.ref tp]))) li se (ts ++ [tp]) (Fa ++ [(x, u)]) := by
  have e1 : (upd H se (.lst (((Fa.map (·.1)).map nV) ++ [nV x]))) li = some (.lst (ts.map V.ref)) := by
    rw [upd_ne h.ne]
    exact h.hli
  have e2 : (upd H se (.lst (((Fa.map (·.1)).map nV) ++ [nV x]))) se = some (.lst (((Fa.map (·.1)).map nV) ++ [nV x])) := upd_same
  have s1 := same_new np (.tup [.str (tx u), nV x])
  have e3 := s1 _ _ e1
  have ntl : tp ≠ li := (ne_of_none e1 np).symm
  refine ⟨e3, ⟨by rw [upd_same, List.map_append]; rfl, ?_, by rw [List.length_append, List.length_append, h.len]; rfl, fun j a p h1 h2 => ?_, h.ne⟩⟩
  · rw [upd_ne h.ne.symm, s1 _ _ e2, List.map_append, List.map_append]
    rfl
  · by_cases hj : j < ts.length
    · rw [List.getElem?_append_left hj] at h1
      rw [List.getElem?_append_left (by rw [← h.len]; exact hj)] at h2
      have e4 := h.it j a p h1 h2
      have e5 : (upd H se (.lst (((Fa.map (·.1)).map nV) ++ [nV x]))) a = some (.tup [.str (tx p.2), nV p.1]) := by
        rw [upd_ne (ne_of e4 h.hse fun z => nomatch z)]
        exact e4
      rw [upd_ne (ne_of (s1 _ _ e5) e3 fun z => nomatch z)]
      exact s1 _ _ e5
    · rw [List.getElem?_append_right (by omega)] at h1
      have hz : j - ts.length = 0 := by
        have := (List.getElem?_eq_some_iff.mp h1).1
        simp at this
        omega
      rw [hz] at h1
      rw [List.getElem?_append_right (by rw [← h.len]; omega), ← h.len, hz] at h2
      obtain rfl : tp = a := by simpa using h1
      obtain rfl : (x, u) = p := by simpa using h2
      rw [upd_ne ntl]
      exact upd_same
theorem ok_law_first {f : Addr} {fd : FuncData} (F : Fun K "_law_first" "_law_first" s_law_first f fd) (B : Bt mg) (C_law_lead : Got P w K mg base CX0 1 "_law_lead" ["rows", "stand", "text"] (sp_law_lead K)) : FnOk P w K mg base CX0 2 f fd ["size", "table"] (sp_law_first K) := by
  refine F.ok sc_law_first (fun vs H Q E h => ?_) (fun cdv A outer s0 H vs Q E hr h => ?_)
  · obtain ⟨t, r, e, T, k, n, rfl, _⟩ := h
    rfl
  obtain ⟨t, r, e, T, k, n, rfl, A1, O, q⟩ := h
  have hk3 := O.k3
  have h40 := O.n40
  have two : ∀ n, n ≤ 10 → n ≤ sizeLine := fun n h => Nat.le_of_lt (small1000 (by omega))
  refine ⟨_, (pss_cons (ps_par3 (i := 2) (j := 3) (l := 4) rfl sc_law_first.nd rfl rfl rfl (by decide) (by decide) (by decide) rfl rfl rfl (pa_cons (pe_lst (pa_cons (pe_tup (pa_cons pe_str (pa_cons pe_int pa_nil))) pa_nil)) (pa_cons (pe_lst (pa_cons pe_int pa_nil)) (pa_cons pe_int pa_nil))) (by rfl)) (pss_cons (ps_while PassesOwn.never (pt_cmpR op_lt (pv 4) (pe_callB (c_len K) (by rfl) B.len bt_len (pa_cons (pv 2) pa_nil)) (nomark _)) (pss_cons (ps_asg (p_ixl K (pv 2) (pv 4)) (g_tup K 2 (pgs_cons (pg_name (i := 5) sc_law_first.nd rfl (Or.inl rfl)) (pgs_cons (pg_name (i := 6) sc_law_first.nd rfl (Or.inl rfl)) pgs_nil)))) (pss_cons (ps_if (pt_val (p_ixt K (p_ixt K (pv 1) pe_int) (pv 6))) (pss_one (ps_ret (pv 5))) pss_nil) (pss_cons (ps_for PassesOwn.never rfl (pi_str (pe_slice sl_str pe_str po_none (po_some (pv 0)))) (pg_name (i := 7) sc_law_first.nd rfl (Or.inl rfl)) (pss_cons (ps_set (i := 8) sc_law_first.nd rfl (Or.inl rfl) (C_law_lead.call hr (by rfl) (pa_cons (p_ixt K (pv 1) pe_int) (pa_cons (pv 6) (pa_cons (pv 7) pa_nil))))) (pss_one (ps_if (t_nin K (pv 8) (pv 3)) (pss_cons (ps_expr (p_app K (pv 3) (pa_cons (pv 8) pa_nil))) (pss_one (ps_expr (p_app K (pv 2) (pa_cons (pe_tup (pa_cons (pe_op op_add_str (pv 5) (pv 7)) (pa_cons (pv 8) pa_nil))) pa_nil))))) pss_nil)))) (pss_one (ps_set (i := 4) sc_law_first.nd rfl (Or.inl rfl) (pe_op op_add (pv 4) pe_int))))))) (pss_one (ps_ret pe_non)))), ?_⟩
  rw [empty_eq]
  refine ⟨two 2 (by decide), fun tp ntp => ⟨two 1 (by decide), fun li nli => ⟨two 1 (by decide), fun se nse => ⟨_, _, _, rfl, ?_⟩⟩⟩⟩
  have s1 := same_new ntp (.tup [V.str (tx []), V.int 0])
  have s2 := same_new nli (.lst [V.ref tp])
  have s3 := same_new nse (.lst [V.int 0])
  have s13 := (s1.trans s2).trans s3
  have nli0 : H li = none := s1.free nli
  have nse0 : H se = none := (s1.trans s2).free nse
  have L0 : LineAt (upd (upd (upd H tp (.tup [V.str (tx []), V.int 0])) li (.lst [V.ref tp])) se (.lst [V.int 0])) li se [tp] (fF T k 0) := by
    refine ⟨s3 _ _ upd_same, upd_same, rfl, fun j a p h1 h2 => ?_, ne_of_none (show (upd (upd H tp (.tup [V.str (tx []), V.int 0])) li (.lst [V.ref tp])) li = some (.lst [V.ref tp]) from upd_same) nse⟩
    cases j with
    | zero =>
      obtain rfl : tp = a := by simpa using h1
      obtain rfl : ((0 : Nat), ([] : Word)) = p := by simpa [fF] using h2
      exact s3 _ _ (s2 _ _ upd_same)
    | succ j => simp at h1
  refine ⟨fun m σ H2 => ∃ (i : Nat) (ts : List Addr) (v5 v6 v7 v8 : Option V), m + i = n ∧ i ≤ (fF T k i).length ∧ σ = [some (nV k), some (.ref t), some (.ref li), some (.ref se), some (nV i), v5, v6, v7, v8] ∧ Same H H2 ∧ LineAt H2 li se ts (fF T k i) ∧ ((fF T k i).take i).find? (fun p => T.fin p.1) = none,
    ⟨n, 0, [tp], none, none, none, none, by omega, Nat.zero_le _, rfl, s13, L0, rfl⟩, ?_⟩
  rintro m σ H2 ⟨i, ts, v5, v6, v7, v8, hm, hil, rfl, sH2, L2', hf⟩
  have hFn := fF_length O i
  have A2 := A1.same sH2
  refine ⟨_, rfl, _, rfl, li, _, rfl, .inl (SqL.of L2'.hli), _, _, rfl, rfl, _, rfl, ?_⟩
  rw [List.length_map, L2'.len]
  refine ite2 (fun c => ?_) (fun c => ?_)
  rotate_left
  · have c : ¬ ((i : Nat) : Int) < ((fF T k i).length : Nat) := of_decide_eq_false (Bool.eq_false_iff.mpr c)
    have hle : (fF T k i).length ≤ i := by omega
    have q' := q H2 sH2
    have e5 : fstW T k n = none := by
      unfold fstW
      rw [fF_stop hle n (by omega)]
      rw [List.take_of_length_le hle] at hf
      rw [hf]
      rfl
    rw [e5] at q'
    exact q'
  have hi : i < (fF T k i).length := by
    have c := of_decide_eq_true c
    omega
  obtain ⟨⟨s0', w0⟩, e0⟩ : ∃ p, (fF T k i)[i]? = some p := ⟨_, List.getElem?_eq_getElem hi⟩
  obtain ⟨Fo, hwl⟩ := fF_ok O i
  obtain ⟨hs0, hw0, hr0, _⟩ := Fo.lt s0' w0 (List.mem_of_getElem? e0)
  have hl0 := hwl i s0' w0 e0
  have hits : i < ts.length := by rw [L2'.len]; exact hi
  have hta : ts[i]? = some ts[i] := List.getElem?_eq_getElem hits
  have hit := L2'.it i _ _ hta e0
  refine ⟨_, fun _ _ h => h, ?_⟩
  refine ⟨_, rfl, _, rfl, li, ts.map V.ref, _, .ref ts[i], rfl, rfl, SqL.of L2'.hli, atI_nat (by rw [List.getElem?_map, hta]; rfl), ts[i], _, rfl, .inl (.inl hit), rfl, _, _, rfl, _, _, rfl, rfl, ?_⟩
  refine ⟨_, rfl, t, _, _, _, rfl, rfl, A2.top, at1, _, rfl, e, _, _, _, rfl, rfl, A2.ends, O.at_fin hs0, T.fin s0', rfl, ?_⟩
  have zf := find_take_succ e0 hf
  have hpren : fF T k i <+: fF T k n := fF_mono T k (by omega)
  cases hb : T.fin s0' with
  | true =>
    rw [if_pos hb] at zf
    have q' := q H2 sH2
    have e5 : fstW T k n = some w0 := by
      unfold fstW
      obtain ⟨rr, hrr⟩ := hpren
      rw [← hrr, List.find?_append, find_take_some zf]
      rfl
    rw [e5] at q'
    exact iteT ⟨_, rfl, q'⟩
  | false =>
  rw [if_neg (by rw [hb]; simp)] at zf
  refine iteF ?_
  refine ⟨_, rfl, ((k : Nat) : Int), rfl, _, rfl, by decide, _, rfl, ?_⟩
  rw [abc_eq, cut_abc k hk3]
  refine for_it (walk_str (z := tx (List.range k))) (fun l σ H3 => ∃ (ts : List Addr) (v7 v8 : Option V), σ = [some (nV k), some (.ref t), some (.ref li), some (.ref se), some (nV i), some (.str (tx w0)), some (nV s0'), v7, v8] ∧ Same H H3 ∧ LineAt H3 li se ts (fRow T s0' w0 l (fF T k i)))
    ⟨ts, v7, v8, rfl, sH2, L2'⟩ (fun _ _ _ _ _ => trivial) ?_ ?_
  · rintro l v σ H3 H4 hl ⟨ts, v7, v8, rfl, sH3, L3⟩ ⟨rfl, cc, hcc, rfl⟩
    rw [tx_size, List.length_range] at hl
    rw [tx_at, List.getElem?_range hl] at hcc
    obtain rfl : l + 97 = cc := Option.some.inj hcc
    have A3 := A1.same sH3
    have Fl := Fo.row O hw0 (by omega) hs0 hr0 l (by omega)
    have hlen3 : (fRow T s0' w0 l (fF T k i)).length ≤ n := by
      have z := nodup_lt_length n Fl.nd fun x hx => by
        obtain ⟨p, hp, rfl⟩ := List.mem_map.mp hx
        exact (Fl.lt p.1 p.2 hp).1
      rwa [List.length_map] at z
    refine ⟨_, rfl, t, _, _, _, rfl, rfl, A3.top, at0, _, rfl, _, rfl, r, T, k, n, s0', [l], rfl, A3.rows, O, hs0, fun y hy => by rw [List.mem_singleton.mp hy]; exact hl, (show 1 ≤ 100000 by decide), ?_⟩
    show gName 8 (nV (T.st s0' l)) _ _ _
    refine ⟨_, rfl, _, rfl, se, _, rfl, .inl (SqL.of L3.hse), rfl, flat_nV _, !decide (T.st s0' l ∈ (fRow T s0' w0 l (fF T k i)).map (·.1)), congrArg (fun z => V.bl (!z)) (inV_nV _ _), ?_⟩
    by_cases hin : T.st s0' l ∈ (fRow T s0' w0 l (fF T k i)).map (·.1)
    · rw [decide_eq_true hin]
      refine iteF ⟨ts, _, _, rfl, sH3, ?_⟩
      rw [fRow, fAdd, if_pos hin]
      exact L3
    · rw [decide_eq_false hin]
      refine iteT ⟨_, rfl, .inl ⟨rfl, _, SqL.of L3.hse⟩, _, rfl, se, _, _, rfl, rfl, L3.hse, by rw [List.length_map, List.length_map]; exact small1000 (by omega), ?_⟩
      have hli5 : (upd H4 se (.lst (((fRow T s0' w0 l (fF T k i)).map (·.1)).map nV ++ [nV (T.st s0' l)]))) li = some (.lst (ts.map V.ref)) := by
        rw [upd_ne L3.ne]
        exact L3.hli
      refine ⟨_, rfl, .inl ⟨rfl, _, SqL.of hli5⟩, _, rfl, _, rfl, _, _, rfl, rfl, by rw [tx_length]; show w0.length + 1 ≤ sizeLine; exact Nat.le_of_lt (small1000 (by omega)), _, rfl, two 2 (by decide), fun tq ntq => ?_⟩
      have e2 : tx w0 ++ (⟨#[l + 97]⟩ : Str) = tx (w0 ++ [l]) := tx_append w0 [l]
      rw [e2]
      obtain ⟨g1, g2⟩ := L3.add (T.st s0' l) (w0 ++ [l]) ntq
      refine ⟨li, _, _, rfl, rfl, g1, by rw [List.length_map, L3.len]; exact small1000 (by omega), ts ++ [tq], _, _, rfl, fun b o e => ?_, ?_⟩
      · rw [upd_ne (ne_of_none e nli0)]
        have h1 := sH3 _ _ e
        have h2 : (upd H4 se (.lst (((fRow T s0' w0 l (fF T k i)).map (·.1)).map nV ++ [nV (T.st s0' l)]))) b = some o := by
          rw [upd_ne (ne_of_none e nse0)]
          exact h1
        exact same_new ntq _ _ _ h2
      · rw [fRow, fAdd, if_neg hin]
        exact g2
  · rintro σ H3 ⟨ts, v7, v8, rfl, sH3, L3⟩
    rw [tx_size, List.length_range] at L3
    have e5 : fRow T s0' w0 k (fF T k i) = fF T k (i + 1) := by rw [fF, e0]
    rw [e5] at L3
    have ea : V.int (((i : Nat) : Int) + 1) = nV (i + 1) := congrArg V.int (by omega)
    have zl := (fF_pre T k i).length_le
    refine ⟨_, rfl, _, _, rfl, rfl, m - 1, by omega, i + 1, ts, _, _, v7, v8, by omega, by omega, by rw [← ea]; rfl, sH3, L3, ?_⟩
    obtain ⟨rr, hrr⟩ := fF_pre T k i
    rw [← hrr, List.take_append_of_le_length (by omega)]
    exact zf
end
end Own
namespace Own
section
variable {T : Tab} {k n : Nat}
/-- among n+1 stands two are the same -/
theorem two_same (O : T.Ok k n) {w : Word} (hw : Wd k w) (hl : n ≤ w.length) : ∃ i j, i < j ∧ j ≤ n ∧ T.run 0 (w.take i) = T.run 0 (w.take j) := by
  refine Classical.byContradiction fun hc => ?_
  have nd : ((List.range (n + 1)).map fun i => T.run 0 (w.take i)).Nodup := by
    refine List.pairwise_map.mpr ((List.Pairwise.and_mem.mp (List.pairwise_lt_range (n := n + 1))).imp fun {a b} h e => ?_)
    obtain ⟨ha, hb, hab⟩ := h
    exact hc ⟨a, b, hab, by have := List.mem_range.mp hb; omega, e⟩
  have := nodup_lt_length n nd fun x hx => by
    obtain ⟨i, _, rfl⟩ := List.mem_map.mp hx
    exact O.run_lt O.n1 fun y hy => hw y (List.mem_of_mem_take hy)
  rw [List.length_map, List.length_range] at this
  omega
theorem run_cut (T : Tab) {w : Word} {i j : Nat} (e : T.run 0 (w.take i) = T.run 0 (w.take j)) : T.run 0 (w.take i ++ w.drop j) = T.run 0 w := by
  rw [Tab.run_append, e, ← Tab.run_append, List.take_append_drop]
theorem run_pump (T : Tab) {w : Word} {i j : Nat} (e : T.run 0 (w.take i) = T.run 0 (w.take j)) : T.run 0 (w.take j ++ w.drop i) = T.run 0 w := by
  rw [Tab.run_append, ← e, ← Tab.run_append, List.take_append_drop]
theorem wd_cut {w : Word} (hw : Wd k w) (i j : Nat) : Wd k (w.take i ++ w.drop j) := fun x hx => by
  rcases List.mem_append.mp hx with h | h
  · exact hw x (List.mem_of_mem_take h)
  · exact hw x (List.mem_of_mem_drop h)
/-- where a word is long, there are words of all lengths' beginnings -/
theorem alive_all (O : T.Ok k n) (h : Alive T k n) : ∀ m, Alive T k m := by
  have up : ∀ m, Alive T k (n + m) := by
    intro m
    induction m with
    | zero => exact h
    | succ m ih =>
      obtain ⟨w, hw, hl, u, hu, ha⟩ := ih
      obtain ⟨i, j, hij, hj, e⟩ := two_same O hw (by omega)
      refine alive_of_word (w := (w.take j ++ w.drop i) ++ u) (fun x hx => ?_) ?_ ?_
      · rcases List.mem_append.mp hx with q | q
        · exact wd_cut hw j i x q
        · exact hu x q
      · unfold Tab.acc
        rw [Tab.run_append, run_pump T e]
        exact ha
      · rw [List.length_append, List.length_append, List.length_take, List.length_drop]
        omega
  intro m
  exact (up m).le (by omega)
/-- from any length on, the next word is no more than n letters away -/
theorem word_near (O : T.Ok k n) (h : Alive T k n) (a : Nat) : ∃ j, a ≤ j ∧ j < a + n ∧ T.W k 0 j ≠ [] := by
  obtain ⟨w, hw, hl, u, hu, ha⟩ := alive_all O h a
  have key : ∀ (L : Nat) (v : Word), v.length = L → a ≤ L → Wd k v → T.acc 0 v = true → ∃ j, a ≤ j ∧ j < a + n ∧ T.W k 0 j ≠ [] := by
    intro L
    induction L using Nat.strongRecOn with
    | ind L ih =>
      intro v hv hLa hvw hva
      by_cases hlt : L < a + n
      · exact ⟨L, hLa, hlt, fun z => by
          have : v ∈ T.W k 0 L := mem_W.mpr ⟨hv, hvw, hva⟩
          rw [z] at this
          simp at this⟩
      · obtain ⟨i, j, hij, hj, e⟩ := two_same O hvw (by omega)
        have hlen : (v.take i ++ v.drop j).length = L - (j - i) := by
          rw [List.length_append, List.length_take, List.length_drop]
          omega
        refine ih (L - (j - i)) (by omega) _ hlen (by omega) (wd_cut hvw i j) ?_
        unfold Tab.acc
        rw [run_cut T e]
        exact hva
  have ha : T.acc 0 (w ++ u) = true := by
    unfold Tab.acc
    rw [Tab.run_append]
    exact ha
  refine key _ (w ++ u) rfl (by rw [List.length_append]; omega) (fun x hx => ?_) ha
  rcases List.mem_append.mp hx with q | q
  · exact hw x q
  · exact hu x q
theorem alive_iff (O : T.Ok k n) : Alive T k n ↔ ∃ j, n ≤ j ∧ j < 2 * n ∧ T.W k 0 j ≠ [] := by
  constructor
  · intro h
    obtain ⟨j, h1, h2, h3⟩ := word_near O h n
    exact ⟨j, h1, by omega, h3⟩
  · rintro ⟨j, h1, _, h3⟩
    obtain ⟨w, hw⟩ := List.exists_mem_of_ne_nil _ h3
    obtain ⟨q1, q2, q3⟩ := mem_W.mp hw
    exact alive_of_word q2 q3 (by omega)
theorem sumW_mono {a b : Nat} (h : a ≤ b) : sumW T k a ≤ sumW T k b := by
  induction h with
  | refl => exact Nat.le_refl _
  | step _ ih => exact Nat.le_trans ih (by rw [sumW]; omega)
/-- so there are many words -/
theorem sumW_grow (O : T.Ok k n) (h : Alive T k n) : ∀ i, i ≤ sumW T k (n * i)
  | 0 => Nat.zero_le _
  | i + 1 => by
    have ih := sumW_grow O h i
    obtain ⟨j, h1, h2, h3⟩ := word_near O h (n * i)
    have h4 : j + 1 ≤ n * (i + 1) := by rw [Nat.mul_succ]; omega
    have h5 := sumW_mono (T := T) (k := k) h4
    have h6 := sumW_mono (T := T) (k := k) h1
    have h7 := List.length_pos_iff.mpr h3
    rw [sumW] at h5
    omega
/-- an index has its word -/
theorem index_word {i : Nat} : ∀ M, i < sumW T k M → ∃ N lft u, N < M ∧ sumW T k N + lft = i ∧ (T.W k 0 N)[lft]? = some u
  | 0, h => by
    unfold sumW at h
    omega
  | M + 1, h => by
    by_cases hlt : i < sumW T k M
    · obtain ⟨N, lft, u, h1, h2, h3⟩ := index_word M hlt
      exact ⟨N, lft, u, by omega, h2, h3⟩
    · rw [sumW] at h
      have hl : i - sumW T k M < (T.W k 0 M).length := by omega
      exact ⟨M, i - sumW T k M, _, by omega, by omega, List.getElem?_eq_getElem hl⟩
/-- the words up to a length, one by one -/
theorem WB_at : ∀ (M i : Nat) (u : Word), (T.WB k M)[i]? = some u → ∃ N lft, N < M ∧ sumW T k N + lft = i ∧ (T.W k 0 N)[lft]? = some u
  | 0, i, u, h => by simp [Tab.WB] at h
  | M + 1, i, u, h => by
    rw [Tab.WB] at h
    by_cases hlt : i < (T.WB k M).length
    · rw [List.getElem?_append_left hlt] at h
      obtain ⟨N, lft, h1, h2, h3⟩ := WB_at M i u h
      exact ⟨N, lft, by omega, h2, h3⟩
    · rw [List.getElem?_append_right (by omega), WB_length] at h
      rw [WB_length] at hlt
      exact ⟨M, i - sumW T k M, by omega, by omega, h⟩
/-- where there is an end: the first length that no word has, nor a longer one -/
theorem end_at (O : T.Ok k n) (h : ¬ Alive T k n) : ∃ m, m ≤ n ∧ ¬ Alive T k m ∧ (∀ j, j < m → Alive T k j) ∧ (∀ j, m ≤ j → T.W k 0 j = []) ∧ (∀ m', m = m' + 1 → T.W k 0 m' ≠ []) := by
  have ex : ∀ d, d ≤ n → ¬ Alive T k d → ∃ m, m ≤ n ∧ ¬ Alive T k m ∧ ∀ j, j < m → Alive T k j := by
    intro d
    induction d with
    | zero => exact fun h0 h => ⟨0, h0, h, fun j hj => by omega⟩
    | succ d ih =>
      intro h0 h
      by_cases z : Alive T k d
      · exact ⟨d + 1, h0, h, fun j hj => z.le (by omega)⟩
      · exact ih (by omega) z
  obtain ⟨m, h1, h2, h3⟩ := ex n (Nat.le_refl _) h
  refine ⟨m, h1, h2, h3, fun j hj => not_alive_W h2 hj, fun m' e hz => ?_⟩
  obtain ⟨w, hw, hl, u, hu, ha⟩ := h3 m' (by omega)
  have ha : T.acc 0 (w ++ u) = true := by
    unfold Tab.acc
    rw [Tab.run_append]
    exact ha
  have hlen : (w ++ u).length < m := Classical.byContradiction fun hc => h2 (alive_of_word (w := w ++ u) (fun x hx => by
    rcases List.mem_append.mp hx with q | q
    · exact hw x q
    · exact hu x q) ha (by omega))
  have hwu : w ++ u ∈ T.W k 0 m' := mem_W.mpr ⟨by rw [List.length_append] at hlen ⊢; omega, fun x hx => by
    rcases List.mem_append.mp hx with q | q
    · exact hw x q
    · exact hu x q, ha⟩
  rw [hz] at hwu
  simp at hwu
theorem sumW_stop {m : Nat} (h : ∀ j, m ≤ j → T.W k 0 j = []) : ∀ d, sumW T k (m + d) = sumW T k m
  | 0 => rfl
  | d + 1 => by
    show sumW T k (m + d) + (T.W k 0 (m + d)).length = _
    rw [h _ (by omega), sumW_stop h d]
    rfl
end
end Own
namespace Own
open PySem PySem.Spec PyProof.Rows L2
/-- the length of the longest word below a length -/
def hiW (T : Tab) (k : Nat) : Nat → Int
  | 0 => -1
  | i + 1 => if 0 < (T.W k 0 i).length then (i : Int) else hiW T k i
def endW (T : Tab) (k n : Nat) : Nat → Bool
  | 0 => false
  | i + 1 => endW T k n i || (decide (0 < (T.W k 0 i).length) && decide (n ≤ i))
theorem endW_iff (T : Tab) (k n : Nat) : ∀ m, endW T k n m = true ↔ ∃ j, n ≤ j ∧ j < m ∧ T.W k 0 j ≠ []
  | 0 => by simp [endW]
  | m + 1 => by
    rw [endW, Bool.or_eq_true, Bool.and_eq_true, decide_eq_true_iff, decide_eq_true_iff, endW_iff T k n m]
    constructor
    · rintro (⟨j, h1, h2, h3⟩ | ⟨h1, h2⟩)
      · exact ⟨j, h1, by omega, h3⟩
      · exact ⟨m, h2, by omega, List.length_pos_iff.mp h1⟩
    · rintro ⟨j, h1, h2, h3⟩
      by_cases e : j = m
      · subst e
        exact .inr ⟨List.length_pos_iff.mpr h3, h1⟩
      · exact .inl ⟨j, h1, by omega, h3⟩
theorem hiW_stop {T : Tab} {k m : Nat} (h1 : ∀ j, m ≤ j → T.W k 0 j = []) (h2 : ∀ m', m = m' + 1 → T.W k 0 m' ≠ []) : ∀ d, hiW T k (m + d) = (m : Int) - 1
  | 0 => by
    cases m with
    | zero => rfl
    | succ m =>
      show (if 0 < (T.W k 0 m).length then (m : Int) else hiW T k m) = _
      rw [if_pos (List.length_pos_iff.mpr (h2 m rfl))]
      omega
  | d + 1 => by
    show (if 0 < (T.W k 0 (m + d)).length then ((m + d : Nat) : Int) else hiW T k (m + d)) = _
    rw [h1 _ (by omega), if_neg (by simp), hiW_stop h1 h2 d]
/-- how many words lead to each stand -/
def hereL (T : Tab) (k n i : Nat) : List V := (List.range n).map fun s => nV (cX T (texts k i) s)
theorem here_at {T : Tab} {k n i s : Nat} (h : s < n) : atI (hereL T k n i) ((s : Nat) : Int) = some (nV (cX T (texts k i) s)) := by
  refine atI_nat ?_
  unfold hereL
  rw [List.getElem?_map, List.getElem?_range h]
  rfl
theorem sum_fin {T : Tab} {n : Nat} {X : List Word} (hX : ∀ w, w ∈ X → T.run 0 w < n) : (((List.range n).filter T.fin).map (cX T X)).sum = (X.filter (T.acc 0)).length := by
  have h1 := sumS_cX T (S := List.range n) List.nodup_range (fun s => if T.fin s = true then 1 else 0) X fun w hw _ => List.mem_range.mpr (hX w hw)
  have h2 := sum_ite X (T.acc 0)
  have h3 : ∀ S : List Nat, ((S.filter T.fin).map (cX T X)).sum = sumS S fun s => cX T X s * (if T.fin s = true then 1 else 0) := by
    intro S
    induction S with
    | nil => rfl
    | cons a r ih =>
      unfold sumS at ih ⊢
      rw [List.filter_cons, List.map_cons, List.sum_cons, ← ih]
      by_cases h : T.fin a = true
      · rw [if_pos h, if_pos h, List.map_cons, List.sum_cons, Nat.mul_one]
      · rw [if_neg h, if_neg h, Nat.mul_zero, Nat.zero_add]
  rw [h3, h1]
  exact h2
theorem orv_cut {a b : TE} {σ : L2.St} {H : Hp} {Q : VK} (v : Bool) (rest : Q (.bl v) H) (main : (∀ u, u = v → Q (.bl u) H) → tOrV a b σ H Q) : tOrV a b σ H Q := main fun u e => by
  rw [e]
  exact rest
theorem ifvE {α β γ δ : Type} {c : Bool} {a b : α → β → (γ → δ → Prop) → Prop} {σ : α} {H : β} {k : γ → δ → Prop} (v : γ) (H2 : δ) (main : c = true → (∀ u, u = v → k u H2) → a σ H k) (els : c = false → (∀ u, u = v → k u H2) → b σ H k) (rest : k v H2) :
    if c = true then a σ H k else b σ H k := by
  have r : ∀ u, u = v → k u H2 := fun u e => by
    rw [e]
    exact rest
  cases c with
  | true => exact main rfl r
  | false => exact els rfl r
theorem late_all {T : Tab} {k n : Nat} {X : List Word} (hX : ∀ w, w ∈ X → T.run 0 w < n) (x : Nat) : sumS (List.range n) (fun s => cX T X s * deg T s x k) = cX T (ext k X) x := by
  rw [cX_ext, sumS_cX T (S := List.range n) List.nodup_range (fun s => deg T s x k) X fun w hw _ => List.mem_range.mpr (hX w hw)]
theorem sumS_snoc (f : Nat → Nat) (m : Nat) : sumS (List.range (m + 1)) f = sumS (List.range m) f + f m := by
  unfold sumS
  rw [List.range_succ, List.map_append, List.sum_append]
  simp
/-- numbers by stands -/
def lateL (n : Nat) (f : Nat → Nat) : List V := (List.range n).map fun x => nV (f x)
theorem late_at {n : Nat} {f : Nat → Nat} {s : Nat} (h : s < n) : atI (lateL n f) ((s : Nat) : Int) = some (nV (f s)) := by
  refine atI_nat ?_
  unfold lateL
  rw [List.getElem?_map, List.getElem?_range h]
  rfl
theorem late_set {n : Nat} {f g : Nat → Nat} {y v : Nat} (hy : y < n) (h : ∀ x, x < n → g x = if y = x then v else f x) : (lateL n f).set y (nV v) = lateL n g := by
  unfold lateL
  apply List.ext_getElem?
  intro x
  rw [List.getElem?_set]
  by_cases hx : x < n
  · rw [List.getElem?_map, List.getElem?_map, List.getElem?_range hx]
    by_cases e : y = x
    · subst e
      rw [if_pos rfl, if_pos (by rw [List.length_map, List.length_range]; exact hx)]
      simp [h y hx]
    · rw [if_neg e]
      simp [h x hx, e]
  · have e : y ≠ x := by omega
    rw [if_neg e, List.getElem?_eq_none (by rw [List.length_map, List.length_range]; omega), List.getElem?_eq_none (by rw [List.length_map, List.length_range]; omega)]
theorem ixN_n {n j : Nat} (h : j < n) : ixN n (j : Int) = some j := by
  unfold ixN
  rw [if_pos (by omega), if_pos (by omega)]
  simp
theorem late_congr {n : Nat} {f g : Nat → Nat} (h : ∀ x, x < n → f x = g x) : lateL n f = lateL n g := by
  unfold lateL
  exact List.map_congr_left fun x hx => by rw [h x (List.mem_range.mp hx)]
section
variable {P : Program} {w : World} {K : PySem.W.Frag} {mg : Str → Option Value} {base : Heap}
abbrev s_law_end_right : Stmt := topS 71
theorem sc_law_end_right : FnScope ["draw", "table", "many", "here", "total", "high", "is_endless", "length", "found", "late", "stand", "there", "index", "word"] ["draw", "table"] (defScope s_law_end_right) := ⟨rfl, rfl, rfl, by decide +kernel, rfl, by decide +kernel, by decide +kernel⟩
def sp_law_end_right (K : PySem.W.Frag) : Sp := fun vs H Q _ => ∃ (d s t r e : Addr) (T : Tab) (k n : Nat), vs = [.ref d, .ref t] ∧ DrawOk H d s ∧ TabAt K H t r e T ∧ T.Ok k n ∧ ∀ H', But d H H' → DrawOk H' d s → Q (.bl true) H'
theorem ok_law_end_right {f CI CW : Addr} {fd : FuncData} (F : Fun K "_law_end_right" "_law_end_right" s_law_end_right f fd) (B : Bt mg) (C_law_next : Got P w K mg base CX0 3 "_law_next" ["draw", "bound"] sp_law_next) (C_law_lead : Got P w K mg base CX0 1 "_law_lead" ["rows", "stand", "text"] (sp_law_lead K))
    (C_longest : Got P w K mg base CX0 6 "longest" ["table"] (sp_longest K)) (C_how_many : Got P w K mg base CX0 6 "how_many" ["table"] (sp_how_many K)) (C_nth_word : GotX P w K mg base 6 "nth_word" ["table", "index"] (sp_nth_word K CI)) (C_word_index : GotX P w K mg base 6 "word_index" ["table", "text"] (sp_word_index K CW))
    (C_law_is_beyond : Got P w K mg base CX0 7 "_law_is_beyond" ["table", "index"] (sp_law_is_beyond K)) : FnOk P w K mg base CX0 8 f fd ["draw", "table"] (sp_law_end_right K) := by
  refine F.ok sc_law_end_right (fun vs H Q E h => ?_) (fun cdv A outer s0 H vs Q E hr h => ?_)
  · obtain ⟨d, s, t, r, e, T, k, n, rfl, _⟩ := h
    rfl
  obtain ⟨d, s, t, r, e, T, k, n, rfl, hd, A1, O, q⟩ := h
  have hr1 : Room 1 _ := hr.mono (by decide)
  have hr3 : Room 3 _ := hr.mono (by decide)
  have hr6 : Room 6 _ := hr.mono (by decide)
  have h40 := O.n40
  have hn1 := O.n1
  have hk3 := O.k3
  have two : ∀ n, n ≤ 10 → n ≤ sizeLine := fun n h => Nat.le_of_lt (small1000 (by omega))
  refine ⟨_, (pss_cons (ps_set (i := 2) sc_law_end_right.nd rfl (Or.inl rfl) (pe_callB (c_len K) (by rfl) B.len bt_len (pa_cons (p_ixt K (pv 1) pe_int) pa_nil))) (pss_cons (ps_asg (pe_tup (pa_cons (pe_lc (own := [("stand", 10)]) rfl sc_law_end_right.nd (pi_range1 (by rfl) B.range (pa_cons (pv 2) pa_nil)) (blkOk_by (by kernel_rfl)) (fun _ _ _ _ _ => (pg_name (i := 10) sc_law_end_right.nd rfl (Or.inl rfl))) (fun _ _ _ _ _ => pts_nil) (fun _ _ _ _ _ => (pe_callTy call_int1 (by rfl) B.int bt_int (pa_cons (pe_cmpR op_eq (pv 10) pe_int (nomark _)) pa_nil)))) (pa_cons pe_int (pa_cons (pe_un un_neg pe_int) pa_nil)))) (g_tup K 3 (pgs_cons (pg_name (i := 3) sc_law_end_right.nd rfl (Or.inr rfl)) (pgs_cons (pg_name (i := 4) sc_law_end_right.nd rfl (Or.inl rfl)) (pgs_cons (pg_name (i := 5) sc_law_end_right.nd rfl (Or.inl rfl)) pgs_nil))))) (pss_cons (ps_set (i := 6) sc_law_end_right.nd rfl (Or.inl rfl) pe_bl) (pss_cons (ps_for PassesOwn.never rfl (pi_range1 (by rfl) B.range (pa_cons (pe_op op_mul pe_int (pv 2)) pa_nil)) (pg_name (i := 7) sc_law_end_right.nd rfl (Or.inl rfl)) (pss_cons (ps_set (i := 8) sc_law_end_right.nd rfl (Or.inl rfl) (pe_callB (c_sum K) (by rfl) B.sum bt_sum (pa_cons (pe_lc (own := [("stand", 10)]) rfl sc_law_end_right.nd (pi_range1 (by rfl) B.range (pa_cons (pv 2) pa_nil)) (blkOk_by (by kernel_rfl)) (fun _ _ _ _ _ => (pg_name (i := 10) sc_law_end_right.nd rfl (Or.inl rfl))) (fun _ _ _ _ _ => (pts_one (pt_val (p_ixt K (p_ixt K (pv 1) pe_int) (pv 10))))) (fun _ _ _ _ _ => (p_ixl K (pv 3) (pv 10)))) pa_nil))) (pss_cons (ps_par (i := 4) (j := 5) rfl sc_law_end_right.nd rfl rfl (by decide) rfl rfl (pa_cons (pe_op op_add (pv 4) (pv 8)) (pa_cons (pe_ifExp (pt_cmpR op_gt (pv 8) pe_int (nomark _)) (pv 7) (pv 5)) pa_nil)) (by rfl)) (pss_cons (ps_set (i := 6) sc_law_end_right.nd rfl (Or.inl rfl) (pe_or (pv 6) (pe_one (pe_and (pe_cmpR op_gt (pv 8) pe_int (nomark _)) (pe_one (pe_cmpR op_ge (pv 7) (pv 2) (nomark _))))))) (pss_cons (ps_set (i := 9) sc_law_end_right.nd rfl (Or.inl rfl) (pe_op op_rep (pe_lst (pa_cons pe_int pa_nil)) (pv 2))) (pss_cons (ps_for PassesOwn.never rfl (pi_range1 (by rfl) B.range (pa_cons (pv 2) pa_nil)) (pg_name (i := 10) sc_law_end_right.nd rfl (Or.inl rfl)) (pss_one (ps_for PassesOwn.never rfl (p_tup K (p_ixt K (p_ixt K (pv 1) pe_int) (pv 10))) (pg_name (i := 11) sc_law_end_right.nd rfl (Or.inl rfl)) (pss_one (ps_asg (pe_op op_add (p_ixl K (pv 9) (pv 11)) (p_ixl K (pv 3) (pv 10))) (pg_sub (pv 9) (pv 11) set_list)))))) (pss_one (ps_set (i := 3) sc_law_end_right.nd rfl (Or.inr rfl) (pv 9))))))))) (pss_cons (ps_if (PW.pt (pw_or (pt_cmpR op_ne (C_longest.call hr6 (by rfl) (pa_cons (pv 1) pa_nil)) (pe_ifExp (p_tru K (pv 6)) pe_non (pv 5)) (nomark _)) (pw_or1 (pt_cmpR op_ne (C_how_many.call hr6 (by rfl) (pa_cons (pv 1) pa_nil)) (pe_ifExp (p_tru K (pv 6)) pe_non (pv 4)) (nomark _))))) (pss_one (ps_ret pe_bl)) pss_nil) (pss_cons (ps_if (p_tru K (pv 6)) (pss_cons (ps_set (i := 12) sc_law_end_right.nd rfl (Or.inl rfl) (pe_op op_add pe_int (C_law_next.call hr3 (by rfl) (pa_cons (pv 0) (pa_cons pe_int pa_nil))))) (pss_cons (ps_set (i := 13) sc_law_end_right.nd rfl (Or.inl rfl) (C_nth_word.call hr6 (by rfl) (pa_cons (pv 1) (pa_cons (pv 12) pa_nil)))) (pss_one (ps_ret (pe_and (p_ixt K (p_ixt K (pv 1) pe_int) (C_law_lead.call hr1 (by rfl) (pa_cons (p_ixt K (pv 1) pe_int) (pa_cons pe_int (pa_cons (pv 13) pa_nil))))) (pe_one (pe_cmpR op_eq (C_word_index.call hr6 (by rfl) (pa_cons (pv 1) (pa_cons (pv 13) pa_nil))) (pv 12) (nomark _)))))))) pss_nil) (pss_one (ps_ret (C_law_is_beyond.call hr (by rfl) (pa_cons (pv 1) (pa_cons (pv 4) pa_nil))))))))))), ?_⟩
  obtain ⟨xs, hx, hxl⟩ := A1.rows.len
  have hrl : xs.length = n := by rw [hxl, O.rl]
  refine ⟨_, rfl, t, _, _, _, rfl, rfl, A1.top, at0, r, xs, rfl, .inr hx, ?_⟩
  rw [hrl]
  refine ⟨_, rfl, ((n : Nat) : Int), rfl, by omega, by omega, fun D nD => ?_⟩
  refine lc_map (walk_range (lo := 0)) nD (fun i => .int (if decide (V.int (0 + (i : Nat)) = V.int 0) = true then 1 else 0)) (by rw [Int.toNat_natCast]; exact small1000 (by omega)) (fun _ _ => trivial) ?_ ?_
  · rintro i x H1 H2 hi s1 ⟨rfl, rfl⟩ R hR
    exact ⟨rfl, _, rfl, rfl, .inr ⟨_, rfl, hR _ (Same.refl _)⟩⟩
  intro H1 s1 hD
  rw [Int.toNat_natCast] at hD
  have hD' : H1 D = some (.lst (hereL T k n 0)) := by
    rw [hD]
    unfold hereL
    congr 2
    refine List.map_congr_left fun i _ => ?_
    have e : cX T (texts k 0) i = if 0 = i then 1 else 0 := by
      show cX T [[]] i = _
      rw [cX_cons]
      rfl
    rw [e]
    by_cases z : i = 0
    · subst z
      rfl
    · have e2 : decide (V.int (0 + (i : Nat)) = V.int 0) = false := decide_eq_false fun h => z (by have := V.int.inj h; omega)
      have e3 : ¬ (0 = i) := fun h => z h.symm
      rw [e2, if_neg e3]
      rfl
  refine ⟨_, rfl, two 3 (by decide), fun tp ntp => ?_⟩
  have s2 := same_new ntp (.tup [V.ref D, V.int 0, V.int (-1)])
  have hD2 := s2 _ _ hD'
  have s12 := s1.trans s2
  have A2 := A1.same s12
  refine ⟨tp, _, rfl, SqT.new, rfl, _, _, rfl, _, _, rfl, _, _, rfl, rfl, ?_⟩
  generalize (upd H1 tp (.tup [V.ref D, V.int 0, V.int (-1)])) = H2 at *
  have e2n : V.int (2 * ((n : Nat) : Int)) = V.int ((2 * n : Nat) : Int) := congrArg V.int (by omega)
  refine ⟨_, rfl, _, _, rfl, rfl, .inl ⟨by decide, by decide⟩, ((2 * n : Nat) : Int), congrArg (fun z => [z]) e2n, by omega, by omega, for_range (lo := 0) (n := ((2 * n : Nat) : Int).toNat) (fun i σ H3 => ∃ (h3 : Addr) (v7 v8 v9 v10 v11 : Option V), i ≤ 2 * n ∧ σ = [some (.ref d), some (.ref t), some (nV n), some (.ref h3), some (nV (sumW T k i)), some (.int (hiW T k i)), some (.bl (endW T k n i)), v7, v8, v9, v10, v11, none, none] ∧
      Same H H3 ∧ H3 h3 = some (.lst (hereL T k n i)))
    ⟨D, none, none, none, none, none, Nat.zero_le _, rfl, s12, hD2⟩ ?_ ?_⟩
  · rintro i σ H3 hi ⟨h3, v7, v8, v9, v10, v11, _, rfl, sH3, hh3⟩
    rw [Int.toNat_natCast] at hi
    have A3 := A1.same sH3
    have e0 : V.int (0 + (i : Nat)) = nV i := congrArg V.int (by omega)
    show gName 7 (V.int (0 + (i : Nat))) _ _ _
    rw [e0]
    refine ⟨_, rfl, ((n : Nat) : Int), rfl, by omega, by omega, fun D nD => ?_⟩
    refine lc_fm (walk_range (lo := 0)) nD (fun s => nV (cX T (texts k i) s)) (fun s => T.fin s) (by rw [Int.toNat_natCast]; exact small1000 (by omega)) (fun _ _ => trivial) ?_ ?_
    · rintro s v H4 H5 hs s4 ⟨rfl, rfl⟩ R R0 hR hR0
      rw [Int.toNat_natCast] at hs
      have A5 := A3.same s4
      have e1 : V.int (0 + (s : Nat)) = nV s := congrArg V.int (by omega)
      show gName 10 (V.int (0 + (s : Nat))) _ _ _
      rw [e1]
      refine ⟨rfl, _, rfl, t, _, _, _, rfl, rfl, A5.top, at1, _, rfl, e, _, _, _, rfl, rfl, A5.ends, O.at_fin hs, T.fin s, rfl, ?_⟩
      cases hf : T.fin s with
      | false => exact iteF (hR0 hf _ (Same.refl _))
      | true => exact iteT ⟨_, rfl, _, rfl, h3, _, _, _, rfl, rfl, SqL.of (s4 _ _ hh3), here_at hs, hR hf _ (Same.refl _)⟩
    intro H4 s4 hD4
    rw [Int.toNat_natCast] at hD4
    have hWl : (((List.range n).filter T.fin).map (cX T (texts k i))).sum = (T.W k 0 i).length := sum_fin (texts_run O)
    refine ⟨D, (((List.range n).filter T.fin).map (cX T (texts k i))).map fun i => ((i : Nat) : Int), rfl, SqL.of (by rw [hD4, List.map_map, List.map_map]; rfl), ?_⟩
    rw [sum_map_nV, hWl]
    have sH4 := sH3.trans s4
    have A4 := A1.same sH4
    have hh4 := s4 _ _ hh3
    have et : V.int (((sumW T k i : Nat) : Int) + ((T.W k 0 i).length : Nat)) = nV (sumW T k (i + 1)) := congrArg V.int (Int.natCast_add _ _).symm
    refine ⟨_, rfl, _, rfl, _, _, rfl, rfl, ?_⟩
    refine ⟨_, rfl, _, _, rfl, rfl, _, rfl, ifvE (V.int (hiW T k (i + 1))) H4 (fun cc hk => ?_) (fun cc hk => ?_) ?_⟩
    · have cc := of_decide_eq_true cc
      have e : hiW T k (i + 1) = ((i : Nat) : Int) := if_pos (by omega)
      exact ⟨_, rfl, hk _ (congrArg V.int e.symm)⟩
    · have cc := of_decide_eq_false cc
      have e : hiW T k (i + 1) = hiW T k i := if_neg (by omega)
      exact ⟨_, rfl, hk _ (congrArg V.int e.symm)⟩
    refine ⟨_, _, rfl, ?_⟩
    show tOrV (tVar 6) (tAndV _ _) _ _ _
    refine orv_cut (endW T k n (i + 1)) ?_ (fun hk => ?_)
    rotate_left
    · have eE : endW T k n (i + 1) = (endW T k n i || (decide (0 < (T.W k 0 i).length) && decide (n ≤ i))) := rfl
      refine ⟨_, rfl, endW T k n i, rfl, ?_⟩
      cases hE : endW T k n i with
      | true => exact iteT (hk true (by rw [eE, hE]; rfl))
      | false =>
        refine iteF ⟨_, rfl, _, _, rfl, rfl, decide (0 < (T.W k 0 i).length), ?_, ?_⟩
        · refine congrArg V.bl ?_
          rw [Bool.eq_iff_iff, decide_eq_true_iff, decide_eq_true_iff]
          omega
        · cases hW : decide (0 < (T.W k 0 i).length) with
          | false => exact iteF (hk false (by rw [eE, hE, hW]; rfl))
          | true =>
            have e2 : decide (((n : Nat) : Int) ≤ ((i : Nat) : Int)) = decide (n ≤ i) := by
              rw [Bool.eq_iff_iff, decide_eq_true_iff, decide_eq_true_iff]
              omega
            exact iteT ⟨_, rfl, _, rfl, _, _, rfl, rfl, hk _ (by rw [eE, hE, hW, e2]; rfl)⟩
    refine ⟨by decide, fun p0 np0 => ?_⟩
    have s5 := same_new np0 (.lst [V.int 0])
    refine ⟨_, rfl, p0, _, _, rfl, rfl, upd_same, by omega, by omega, ?_, fun la nla => ?_⟩
    · show 1 * n ≤ sizeLine
      exact Nat.le_of_lt (small1000 (by omega))
    have s6 := s5.trans (same_new nla (.lst (List.replicate (((n : Nat) : Int)).toNat [V.int 0]).flatten))
    have hla0 : (upd (upd H4 p0 (.lst [V.int 0])) la (.lst (List.replicate (((n : Nat) : Int)).toNat [V.int 0]).flatten)) la = some (.lst (lateL n fun x => sumS (List.range 0) fun s => cX T (texts k i) s * deg T s x k)) := by
      rw [upd_same, Int.toNat_natCast, rep_flat n _]
      show some (HO.lst (List.replicate n (V.int 0))) = some (HO.lst ((List.range n).map fun _ => V.int 0))
      rw [List.map_const', List.length_range]
    have nlaH4 : H4 la = none := s5.free nla
    have nlaH : H la = none := sH4.free nlaH4
    generalize (upd (upd H4 p0 (.lst [V.int 0])) la (.lst (List.replicate (((n : Nat) : Int)).toNat [V.int 0]).flatten)) = H5 at *
    refine ⟨_, rfl, ((n : Nat) : Int), rfl, by omega, by omega, for_range (lo := 0) (n := ((n : Nat) : Int).toNat) (fun s σ H6 => ∃ (v10 v11 : Option V), s ≤ n ∧ σ = [some (.ref d), some (.ref t), some (nV n), some (.ref h3), some (nV (sumW T k (i + 1))), some (.int (hiW T k (i + 1))), some (.bl (endW T k n (i + 1))), some (nV i), some (nV (T.W k 0 i).length), some (.ref la), v10, v11, none, none] ∧
        Same H4 H6 ∧ H6 la = some (.lst (lateL n fun x => sumS (List.range s) fun s => cX T (texts k i) s * deg T s x k)))
      ⟨v10, v11, Nat.zero_le _, by rw [← et]; rfl, s6, hla0⟩ ?_ ?_⟩
    · rintro s σ H6 hs ⟨v10, v11, _, rfl, sH6, hla⟩
      rw [Int.toNat_natCast] at hs
      have e1 : V.int (0 + (s : Nat)) = nV s := congrArg V.int (by omega)
      show gName 10 (V.int (0 + (s : Nat))) _ _ _
      rw [e1]
      have A6 := A4.same sH6
      obtain ⟨as, h1, hasl, row⟩ := A6.rows.opened O
      obtain ⟨ra, g1, g2⟩ := row s hs
      have hrl2 : ((T.rows.getD s []).map nV).length = k := by rw [List.length_map, O.rowlen hs]
      refine ⟨_, rfl, t, _, _, _, rfl, rfl, A6.top, at0, _, rfl, r, _, _, _, rfl, rfl, h1, atI_nat g1, ra, rfl, ⟨_, g2⟩, ?_⟩
      refine for_tup (K := K) (a := ra) (xs := (T.rows.getD s []).map nV) (fun l σ H7 => ∃ (v11 : Option V), σ = [some (.ref d), some (.ref t), some (nV n), some (.ref h3), some (nV (sumW T k (i + 1))), some (.int (hiW T k (i + 1))), some (.bl (endW T k n (i + 1))), some (nV i), some (nV (T.W k 0 i).length), some (.ref la), some (nV s), v11, none, none] ∧
          Same H4 H7 ∧ SqT K H7 ra ((T.rows.getD s []).map nV) ∧ H7 la = some (.lst (lateL n fun x => (sumS (List.range s) fun s => cX T (texts k i) s * deg T s x k) + cX T (texts k i) s * deg T s x l)))
        ⟨v11, rfl, sH6, g2, by rw [hla]; exact congrArg (fun z => some (HO.lst z)) (late_congr fun x _ => by rw [deg, Nat.mul_zero, Nat.add_zero])⟩ (fun l σ H7 _ h => ?_) ?_ ?_
      · obtain ⟨_, _, _, h, _⟩ := h
        exact h
      · rintro l x σ H7 hxx ⟨v11, rfl, sH7, g7, hla7⟩
        have hl : l < k := by
          have := (List.getElem?_eq_some_iff.mp hxx).1
          omega
        have hst := O.at_st hs hl
        have hl2 : l < ((T.rows.getD s []).map nV).length := by omega
        rw [atI_nat (List.getElem?_eq_getElem hl2)] at hst
        rw [List.getElem?_eq_getElem hl2] at hxx
        obtain rfl : x = nV (T.st s l) := (Option.some.inj hxx).symm.trans (Option.some.inj hst)
        have hlt := O.st_lt hs hl
        refine ⟨_, rfl, _, rfl, la, _, _, _, rfl, rfl, SqL.of hla7, late_at hlt, _, rfl, _, rfl, h3, _, _, _, rfl, rfl, SqL.of (sH7 _ _ hh4), here_at hs, _, _, rfl, rfl, ?_⟩
        have hlen : (lateL n fun x => (sumS (List.range s) fun s => cX T (texts k i) s * deg T s x k) + cX T (texts k i) s * deg T s x l).length = n := by
          unfold lateL
          rw [List.length_map, List.length_range]
        refine ⟨_, rfl, _, rfl, la, _, _, T.st s l, rfl, rfl, hla7, by rw [hlen]; exact ixN_n hlt, ?_⟩
        refine ⟨_, rfl, fun b o e => ?_, ?_, ?_⟩
        · rw [upd_ne (ne_of_none e nlaH4)]
          exact sH7 _ _ e
        · have b7 : But la H7 (upd H7 la (.lst ((lateL n fun x => (sumS (List.range s) fun s => cX T (texts k i) s * deg T s x k) + cX T (texts k i) s * deg T s x l).set (T.st s l) (V.int ((((sumS (List.range s) fun s' => cX T (texts k i) s' * deg T s' (T.st s l) k) + cX T (texts k i) s * deg T s (T.st s l) l : Nat) : Int) + (cX T (texts k i) s : Nat)))))) := fun b o hb e => by
            rw [upd_ne hb]
            exact e
          exact b7.tup hla7 (fun _ z => nomatch z) (fun _ _ z => nomatch z) g7
        · rw [upd_same]
          refine congrArg (fun z => some (HO.lst z)) ?_
          refine late_set (v := ((sumS (List.range s) fun s' => cX T (texts k i) s' * deg T s' (T.st s l) k) + cX T (texts k i) s * deg T s (T.st s l) l) + cX T (texts k i) s) hlt fun x hxn => ?_
          show (sumS (List.range s) fun s => cX T (texts k i) s * deg T s x k) + cX T (texts k i) s * (deg T s x l + if T.st s l = x then 1 else 0) = _
          by_cases e : T.st s l = x
          · rw [if_pos e, if_pos e, Nat.mul_add, Nat.mul_one, ← e]
            omega
          · rw [if_neg e, if_neg e, Nat.add_zero]
      · rintro σ H7 ⟨v11, rfl, sH7, g7, hla7⟩
        rw [hrl2] at hla7
        refine ⟨_, _, hs, rfl, sH7, ?_⟩
        rw [hla7]
        exact congrArg (fun z => some (HO.lst z)) (late_congr fun x _ => (sumS_snoc (fun s => cX T (texts k i) s * deg T s x k) s).symm)
    · rintro σ H6 ⟨v10, v11, _, rfl, sH6, hla⟩
      rw [Int.toNat_natCast] at hla
      refine ⟨_, rfl, la, _, _, _, _, _, by omega, rfl, sH4.trans sH6, ?_⟩
      rw [hla]
      refine congrArg (fun z => some (HO.lst z)) ?_
      unfold lateL hereL
      refine List.map_congr_left fun x _ => ?_
      have z := late_all (T := T) (k := k) (n := n) (X := texts k i) (texts_run O) x
      rw [ext_texts] at z
      exact congrArg nV z
  rintro σ H3 ⟨h3, v7, v8, v9, v10, v11, _, rfl, sH3, hh3⟩
  rw [Int.toNat_natCast] at *
  have A3 := A1.same sH3
  have d3 := hd.same sH3
  by_cases ha : Alive T k n
  · have hE : endW T k n (2 * n) = true := (endW_iff T k n (2 * n)).mpr ((alive_iff O).mp ha)
    rw [hE]
    refine ⟨_, rfl, t, r, e, T, k, n, rfl, A3, O, fun H4 s4 => ⟨fun _ => ?_, fun m hm hna _ => absurd (alive_all O ha m) hna⟩⟩
    have A4 := A3.same s4
    refine ⟨_, rfl, true, rfl, iteT ⟨rfl, false, rfl, iteF ?_⟩⟩
    refine ⟨_, rfl, t, r, e, T, k, n, rfl, A4, O, fun H5 s5 => ⟨fun _ => ?_, fun m hm hna _ => absurd (alive_all O ha m) hna⟩⟩
    have A5 := A4.same s5
    refine ⟨_, rfl, true, rfl, iteT ⟨rfl, false, rfl, iteF ?_⟩⟩
    refine ⟨_, rfl, true, rfl, iteT ?_⟩
    have sH5 := (sH3.trans s4).trans s5
    refine ⟨_, rfl, d, s, 500, rfl, by decide, hd.same sH5, fun rr H6 hrr b6 d6 => ⟨_, _, rfl, rfl, ?_⟩⟩
    have ei : V.int ((40 : Int) + ((rr : Nat) : Int)) = V.int ((40 + rr : Nat) : Int) := congrArg V.int (by omega)
    show gName 12 (V.int ((40 : Int) + ((rr : Nat) : Int))) _ _ _
    rw [ei]
    have hg := sumW_grow O ha (40 + rr + 1)
    obtain ⟨N, lft, u, hN, hsum, hu⟩ := index_word (T := T) (k := k) (i := 40 + rr) (n * (40 + rr + 1)) (by omega)
    have hNb : n * (40 + rr + 1) ≤ 40 * 541 := Nat.mul_le_mul h40 (by omega)
    obtain ⟨hul, huw, hua⟩ := mem_W.mp (List.mem_of_getElem? hu)
    obtain ⟨⟨ysd, hyd⟩, _, _⟩ := (hd.same sH5).some
    have A6 : TabAt K H6 t r e T := b6.tab hyd (fun _ z => nomatch z) (fun _ _ z => nomatch z) A5
    refine ⟨_, rfl, _, rfl, t, r, e, T, k, n, ((40 + rr : Nat) : Int), rfl, A6, O, .inl ⟨40 + rr, N, lft, u, rfl, by omega, by omega, hsum, hu, fun H7 s7 => ?_⟩⟩
    have A7 := A6.same s7
    have hrun := O.run_lt O.n1 huw
    refine ⟨_, rfl, t, _, _, _, rfl, rfl, A7.top, at1, _, rfl, t, _, _, _, rfl, rfl, A7.top, at0, _, rfl, r, T, k, n, 0, u, rfl, A7.rows, O, O.n1, huw, by omega, e, _, _, _, rfl, rfl, A7.ends, O.at_fin hrun, T.fin (T.run 0 u), rfl, ?_⟩
    have hfin : T.fin (T.run 0 u) = true := hua
    rw [hfin]
    refine iteT ⟨_, rfl, _, rfl, t, r, e, T, k, n, u, rfl, A7, O, huw, by omega, fun _ H8 s8 => ⟨_, rfl, rfl, ?_⟩, fun hn => ?_⟩
    · have er : rank T k u = 40 + rr := (rank_of hu).trans hsum
      rw [er]
      have z := q H8 (((but_of sH5).trans b6).same (s7.trans s8)) (d6.same (s7.trans s8))
      have e9 : decide (nV (40 + rr) = V.int ((40 + rr : Nat) : Int)) = true := decide_eq_true rfl
      show Q (.bl (decide (nV (40 + rr) = V.int ((40 + rr : Nat) : Int)))) H8
      rw [e9]
      exact z
    · rw [hua] at hn
      cases hn
  · obtain ⟨m, hm, hna, hal, hz, hlast⟩ := end_at O ha
    have hE : endW T k n (2 * n) = false := by
      cases hc : endW T k n (2 * n) with
      | false => rfl
      | true => exact absurd ((alive_iff O).mpr ((endW_iff T k n (2 * n)).mp hc)) ha
    have hhi : hiW T k (2 * n) = (m : Int) - 1 := by
      have := hiW_stop (T := T) (k := k) hz hlast (2 * n - m)
      rwa [show m + (2 * n - m) = 2 * n by omega] at this
    have hsm : sumW T k (2 * n) = sumW T k m := by
      have := sumW_stop (T := T) (k := k) hz (2 * n - m)
      rwa [show m + (2 * n - m) = 2 * n by omega] at this
    have uniq : ∀ m', ¬ Alive T k m' → (∀ j, j < m' → Alive T k j) → m' = m := fun m' h1 h2 => by
      rcases Nat.lt_trichotomy m' m with h | h | h
      · exact absurd (hal m' h) h1
      · exact h
      · exact absurd (h2 m h) hna
    rw [hE, hhi, hsm]
    refine ⟨_, rfl, t, r, e, T, k, n, rfl, A3, O, fun H4 s4 => ⟨fun h => absurd h ha, fun m' _ h1 h2 => ?_⟩⟩
    rw [uniq m' h1 h2]
    have A4 := A3.same s4
    have e1 : (!decide (V.int ((m : Int) - 1) = V.int ((m : Int) - 1))) = false := by simp
    refine ⟨_, rfl, false, rfl, iteF ⟨_, rfl, rfl, false, congrArg V.bl e1, iteF ?_⟩⟩
    refine ⟨_, rfl, t, r, e, T, k, n, rfl, A4, O, fun H5 s5 => ⟨fun h => absurd h ha, fun m' _ h1 h2 => ?_⟩⟩
    rw [uniq m' h1 h2]
    have A5 := A4.same s5
    have e2 : (!decide (nV (sumW T k m) = nV (sumW T k m))) = false := by simp
    refine ⟨_, rfl, false, rfl, iteF ⟨_, rfl, rfl, false, congrArg V.bl e2, iteF ?_⟩⟩
    refine ⟨_, rfl, false, rfl, iteF ?_⟩
    have sH5 := (sH3.trans s4).trans s5
    exact ⟨_, rfl, _, rfl, t, r, e, T, k, n, ((sumW T k m : Nat) : Int), rfl, A5, O, .inr ⟨sumW T k m, m, rfl, by omega, hna, Nat.le_refl _⟩, fun H' s' => q H' ((but_of sH5).same s') (hd.same (sH5.trans s'))⟩
end
end Own
namespace Own
open PySem PySem.Spec PyProof.Rows L2
theorem filter_allT (T : Tab) (k : Nat) : ∀ m, (allT k m).filter (T.acc 0) = T.WB k (m + 1)
  | 0 => by
    show ((texts k 0) ++ []).filter (T.acc 0) = [] ++ T.W k 0 0
    rw [List.append_nil, List.nil_append]
    rfl
  | m + 1 => by
    rw [allT_succ, List.filter_append, filter_allT T k m]
    rfl
theorem len_WB (T : Tab) (k : Nat) : ∀ (m j : Nat), j < m → ((T.WB k m).filter fun w => decide (w.length = j)) = T.W k 0 j
  | 0, j, h => by omega
  | m + 1, j, h => by
    rw [Tab.WB, List.filter_append]
    by_cases e : j = m
    · subst e
      have h1 : (T.WB k j).filter (fun w => decide (w.length = j)) = [] := by
        apply List.filter_eq_nil_iff.mpr
        intro w hw hc
        have hc := of_decide_eq_true hc
        have : ∀ m w, w ∈ T.WB k m → w.length < m := by
          intro m
          induction m with
          | zero => intro w h; simp [Tab.WB] at h
          | succ m ih =>
            intro w h
            rw [Tab.WB] at h
            rcases List.mem_append.mp h with h | h
            · have := ih w h
              omega
            · have := (mem_W.mp h).1
              omega
        have := this j w hw
        omega
      have h2 : (T.W k 0 j).filter (fun w => decide (w.length = j)) = T.W k 0 j := List.filter_eq_self.mpr fun w hw => decide_eq_true (mem_W.mp hw).1
      rw [h1, h2, List.nil_append]
    · have h2 : (T.W k 0 m).filter (fun w => decide (w.length = j)) = [] := by
        apply List.filter_eq_nil_iff.mpr
        intro w hw hc
        have hc := of_decide_eq_true hc
        have := (mem_W.mp hw).1
        omega
      rw [h2, List.append_nil, len_WB T k m j (by omega)]
mutual
/-- bounds of nodes by depth -/
theorem Pat.nb_le {k : Nat} : ∀ (p : Pat), p.Ok k → ∀ m, p.depth ≤ m → p.nb + 2 ≤ 3 * 5 ^ m
  | .non, _, m, _ => by
    have : 1 ≤ 5 ^ m := Nat.pow_pos (by decide)
    simp only [Pat.nb]
    omega
  | .emp, _, m, _ => by
    have : 1 ≤ 5 ^ m := Nat.pow_pos (by decide)
    simp only [Pat.nb]
    omega
  | .one _, _, m, _ => by
    have : 1 ≤ 5 ^ m := Nat.pow_pos (by decide)
    simp only [Pat.nb]
    omega
  | .row ps, ok, m, hd => by
    simp only [Pat.Ok] at ok
    simp only [Pat.depth] at hd
    obtain ⟨m', rfl⟩ : ∃ m', m = m' + 1 := ⟨m - 1, by omega⟩
    have h := Pats.nb_le ps ok.1 m' (by omega)
    have hl : ps.len * (3 * 5 ^ m') ≤ 4 * (3 * 5 ^ m') := Nat.mul_le_mul_right _ ok.2
    have : 1 ≤ 5 ^ m' := Nat.pow_pos (by decide)
    simp only [Pat.nb]
    rw [Nat.pow_succ]
    omega
  | .any ps, ok, m, hd => by
    simp only [Pat.Ok] at ok
    simp only [Pat.depth] at hd
    obtain ⟨m', rfl⟩ : ∃ m', m = m' + 1 := ⟨m - 1, by omega⟩
    have h := Pats.nb_le ps ok.1 m' (by omega)
    have hl : ps.len * (3 * 5 ^ m') ≤ 4 * (3 * 5 ^ m') := Nat.mul_le_mul_right _ ok.2
    have : 1 ≤ 5 ^ m' := Nat.pow_pos (by decide)
    simp only [Pat.nb]
    rw [Nat.pow_succ]
    omega
  | .again p lo hi, ok, m, hd => by
    simp only [Pat.Ok] at ok
    simp only [Pat.depth] at hd
    obtain ⟨m', rfl⟩ : ∃ m', m = m' + 1 := ⟨m - 1, by omega⟩
    obtain ⟨okp, hlo, hhi⟩ := ok
    have h := Pat.nb_le p okp m' (by omega)
    have h1 : lo * p.nb ≤ 3 * p.nb := Nat.mul_le_mul_right _ hlo
    simp only [Pat.nb]
    rw [Nat.pow_succ]
    cases hi with
    | none =>
      show lo * p.nb + 2 + (p.nb + 1) + 2 ≤ _
      omega
    | some x =>
      obtain ⟨a1, a2, a3⟩ := hhi x rfl
      have h2 : lo * p.nb + (x - lo) * (p.nb + 1) ≤ 3 * (p.nb + 1) := by
        have : lo * p.nb ≤ lo * (p.nb + 1) := Nat.mul_le_mul_left _ (by omega)
        have h3 : lo * (p.nb + 1) + (x - lo) * (p.nb + 1) = x * (p.nb + 1) := by
          rw [← Nat.add_mul]
          congr 1
          omega
        have h4 : x * (p.nb + 1) ≤ 3 * (p.nb + 1) := Nat.mul_le_mul_right _ a3
        omega
      show lo * p.nb + 2 + (x - lo) * (p.nb + 1) + 2 ≤ _
      omega
  | .group p, ok, m, hd => by
    simp only [Pat.Ok] at ok
    simp only [Pat.depth] at hd
    simp only [Pat.nb]
    obtain ⟨m', rfl⟩ : ∃ m', m = m' + 1 := ⟨m - 1, by omega⟩
    have h := Pat.nb_le p ok m' (by omega)
    rw [Nat.pow_succ]
    omega
theorem Pats.nb_le {k : Nat} : ∀ (ps : Pats), ps.Ok k → ∀ m, ps.depth ≤ m → ps.nb1 ≤ ps.len * (3 * 5 ^ m) ∧ ps.nb ≤ ps.len * (3 * 5 ^ m)
  | .nil, _, m, _ => by simp [Pats.nb1, Pats.nb]
  | .cons p ps, ok, m, hd => by
    simp only [Pats.Ok] at ok
    simp only [Pats.depth, Nat.max_le] at hd
    have h1 := Pat.nb_le p ok.1 m hd.1
    have h2 := Pats.nb_le ps ok.2 m hd.2
    simp only [Pats.nb1, Pats.nb, Pats.len]
    rw [Nat.succ_mul]
    omega
end
end Own
namespace Own
open PySem PySem.Spec PyProof.Rows L2
theorem range_getD {α : Type} (xs : List α) (d : α) : (List.range xs.length).map (fun i => xs.getD i d) = xs := by
  apply List.ext_getElem?
  intro i
  rw [List.getElem?_map]
  by_cases hi : i < xs.length
  · rw [List.getElem?_range hi, List.getElem?_eq_getElem hi, Option.map_some, List.getD_eq_getElem?_getD, List.getElem?_eq_getElem hi]
    rfl
  · rw [List.getElem?_eq_none (by rw [List.length_range]; omega), List.getElem?_eq_none (by omega)]
    rfl
theorem filt_getD {α : Type} (xs : List α) (d : α) (p : α → Bool) (f : α → V) : ((List.range xs.length).filter fun i => p (xs.getD i d)).map (fun i => f (xs.getD i d)) = (xs.filter p).map f := by
  have e : (((List.range xs.length).map (fun i => xs.getD i d)).filter p).map f = (xs.filter p).map f := congrArg (fun l => (l.filter p).map f) (range_getD xs d)
  rw [← e, List.filter_map, List.map_map]
  rfl
theorem allT_len {k : Nat} (hk : k ≤ 3) : (allT k 4).length ≤ 121 := by
  have h : k = 0 ∨ k = 1 ∨ k = 2 ∨ k = 3 := by omega
  rcases h with rfl | rfl | rfl | rfl <;> decide +kernel
theorem flat_tx (S : List Word) : (S.map fun u => V.str (tx u)).all flatV = true := by
  rw [List.all_map]
  exact List.all_eq_true.mpr fun _ _ => rfl
theorem inV_tx (S : List Word) (t : Word) : inV (.str (tx t)) (S.map fun u => V.str (tx u)) = decide (t ∈ S) := by
  unfold inV
  rw [Bool.eq_iff_iff, List.any_eq_true, decide_eq_true_eq]
  constructor
  · rintro ⟨x, hx, h⟩
    obtain ⟨s, hs, rfl⟩ := List.mem_map.mp hx
    have e : tx s = tx t := by simpa [eqV] using h
    rw [← tx_inj e]
    exact hs
  · intro h
    exact ⟨V.str (tx t), List.mem_map.mpr ⟨t, h, rfl⟩, by simp [eqV]⟩
theorem cut_get {S : List Word} {m : Nat} {i : Nat} {x : V} (h : (cutV (S.map fun u => V.str (tx u)) none (some ((m : Nat) : Int)))[i]? = some x) : ∃ u, S[i]? = some u ∧ x = V.str (tx u) := by
  unfold cutV at h
  rw [HT.sIx_none, List.drop_zero, List.getElem?_take] at h
  split at h
  · rw [List.getElem?_map] at h
    cases e : S[i]? with
    | none =>
      rw [e] at h
      cases h
    | some u =>
      rw [e] at h
      exact ⟨u, rfl, (Option.some.inj h).symm⟩
  · cases h
end Own
namespace Own
open PySem PySem.Spec PyProof.Rows L2
section
variable {P : Program} {w : World} {K : PySem.W.Frag} {mg : Str → Option Value} {base : Heap}
abbrev s_law : Stmt := topS 72
theorem sc_law : FnScope ["script", "draw", "turn", "size", "pattern", "table", "texts", "words", "length", "index", "word", "others", "text"] ["script"] (defScope s_law) := ⟨rfl, rfl, rfl, by decide +kernel, rfl, by decide +kernel, by decide +kernel⟩
def sp_law (K : PySem.W.Frag) : Sp := fun vs H Q _ => ∃ (a : Addr) (xs : List Int), vs = [.ref a] ∧ SqL K H a (xs.map V.int) ∧ ∀ H', Q (.bl true) H'
theorem ok_law {f CI CW : Addr} {fd : FuncData} (F : Fun K "law" "law" s_law f fd) (B : Bt mg) (C_law_next : Got P w K mg base CX0 3 "_law_next" ["draw", "bound"] sp_law_next) (C_law_pattern : Got P w K mg base CX0 10 "_law_pattern" ["draw", "size", "most"] (sp_law_pattern K)) (C_law_table : Got P w K mg base CX0 10 "_law_table" ["size", "patterns", "is_rules"] (sp_law_table K))
    (C_law_texts : Got P w K mg base CX0 1 "_law_texts" ["size", "most"] sp_law_texts) (C_law_has : Got P w K mg base CX0 14 "_law_has" ["pattern", "text"] (sp_law_has K 4)) (C_count_words : Got P w K mg base CX0 6 "count_words" ["table", "length"] (sp_count_words K)) (C_nth_word : GotX P w K mg base 6 "nth_word" ["table", "index"] (sp_nth_word K CI))
    (C_word_index : GotX P w K mg base 6 "word_index" ["table", "text"] (sp_word_index K CW)) (C_first_word : Got P w K mg base CX0 6 "first_word" ["table"] (sp_first_word K)) (C_law_first : Got P w K mg base CX0 2 "_law_first" ["size", "table"] (sp_law_first K)) (C_law_is_no_word : Got P w K mg base CX0 7 "_law_is_no_word" ["table", "text"] (sp_law_is_no_word K))
    (C_law_end_right : Got P w K mg base CX0 8 "_law_end_right" ["draw", "table"] (sp_law_end_right K)) (C_law_is_beyond : Got P w K mg base CX0 7 "_law_is_beyond" ["table", "index"] (sp_law_is_beyond K)) : FnOk P w K mg base CX0 15 f fd ["script"] (sp_law K) := by
  refine F.ok sc_law (fun vs H Q E h => ?_) (fun cdv A outer s0 H vs Q E hr h => ?_)
  · obtain ⟨a, xs, rfl, _⟩ := h
    rfl
  obtain ⟨a, xs, rfl, hs, q⟩ := h
  have hr1 : Room 1 _ := hr.mono (by decide)
  have hr2 : Room 2 _ := hr.mono (by decide)
  have hr3 : Room 3 _ := hr.mono (by decide)
  have hr6 : Room 6 _ := hr.mono (by decide)
  have hr7 : Room 7 _ := hr.mono (by decide)
  have hr8 : Room 8 _ := hr.mono (by decide)
  have hr10 : Room 10 _ := hr.mono (by decide)
  have two : ∀ n, n ≤ 10 → n ≤ sizeLine := fun n h => Nat.le_of_lt (small1000 (by omega))
  refine ⟨_, (pss_cons (ps_set (i := 1) sc_law.nd rfl (Or.inl rfl) (pe_lst (pa_cons (pe_slice sl_list (pv 0) po_none (po_some pe_int)) (pa_cons pe_int (pa_cons pe_int pa_nil))))) (pss_cons (ps_for PassesOwn.never rfl (pi_range1 (by rfl) B.range (pa_cons pe_int pa_nil)) (pg_name (i := 2) sc_law.nd rfl (Or.inl rfl)) (pss_cons (ps_set (i := 3) sc_law.nd rfl (Or.inl rfl) (pe_op op_add pe_int (C_law_next.call hr3 (by rfl) (pa_cons (pv 1) (pa_cons pe_int pa_nil))))) (pss_cons (ps_set (i := 4) sc_law.nd rfl (Or.inr rfl) (C_law_pattern.call hr10 (by rfl) (pa_cons (pv 1) (pa_cons (pv 3) (pa_cons pe_int pa_nil))))) (pss_cons (ps_set (i := 5) sc_law.nd rfl (Or.inr rfl) (C_law_table.call hr10 (by rfl) (pa_cons (pv 3) (pa_cons (pe_lst (pa_cons (pv 4) pa_nil)) (pa_cons pe_bl pa_nil))))) (pss_cons (ps_set (i := 6) sc_law.nd rfl (Or.inl rfl) (C_law_texts.call hr1 (by rfl) (pa_cons (pv 3) (pa_cons pe_int pa_nil)))) (pss_cons (ps_set (i := 7) sc_law.nd rfl (Or.inr rfl) (pe_lc (own := [("text", 12)]) rfl sc_law.nd (p_list K (pv 6)) (blkOk_by (by kernel_rfl)) (fun _ _ _ _ _ => (pg_name (i := 12) sc_law.nd rfl (Or.inl rfl))) (fun _ _ _ _ _ => (pts_one (pt_val (C_law_has.call hr (by rfl) (pa_cons (pv 4) (pa_cons (pv 12) pa_nil)))))) (fun _ _ _ _ _ => (pv 12)))) (pss_cons (ps_for PassesOwn.never rfl (pi_range1 (by rfl) B.range (pa_cons pe_int pa_nil)) (pg_name (i := 8) sc_law.nd rfl (Or.inr rfl)) (pss_one (ps_if (pt_cmpR op_ne (C_count_words.call hr6 (by rfl) (pa_cons (pv 5) (pa_cons (pv 8) pa_nil))) (pe_callB (c_len K) (by rfl) B.len bt_len (pa_cons (pe_lc (own := [("word", 10)]) rfl sc_law.nd (p_list K (pv 7)) (blkOk_by (by kernel_rfl)) (fun _ _ _ _ _ => (pg_name (i := 10) sc_law.nd rfl (Or.inl rfl))) (fun _ _ _ _ _ => (pts_one (pt_cmpR op_eq (pe_callB call_len_str (by rfl) B.len bt_len (pa_cons (pv 10) pa_nil)) (pv 8) (nomark _)))) (fun _ _ _ _ _ => (pv 10))) pa_nil)) (nomark _)) (pss_one (ps_ret pe_bl)) pss_nil))) (pss_cons (ps_for PassesOwn.never rfl (pi_enum (by rfl) B.enumerate (pa_cons (pe_slice sl_list (pv 7) po_none (po_some pe_int)) pa_nil)) (g_tup K 2 (pgs_cons (pg_name (i := 9) sc_law.nd rfl (Or.inl rfl)) (pgs_cons (pg_name (i := 10) sc_law.nd rfl (Or.inl rfl)) pgs_nil))) (pss_one (ps_if (PW.pt (pw_or (pt_cmpR op_ne (C_nth_word.call hr6 (by rfl) (pa_cons (pv 5) (pa_cons (pv 9) pa_nil))) (pv 10) (nomark _)) (pw_or1 (pt_cmpR op_ne (C_word_index.call hr6 (by rfl) (pa_cons (pv 5) (pa_cons (pv 10) pa_nil))) (pv 9) (nomark _))))) (pss_one (ps_ret pe_bl)) pss_nil))) (pss_cons (ps_setLc (i := 11) (own := [("text", 12)]) rfl sc_law.nd rfl rfl (sw_true rfl rfl rfl (by decide +kernel)) (p_list K (pv 6)) (blkOk_by (by kernel_rfl)) (fun _ _ _ _ _ => (pg_name (i := 12) sc_law.nd rfl (Or.inl rfl))) (fun _ _ _ _ _ => (pts_one (t_nin K (pv 12) (pv 7)))) (fun _ _ _ _ _ => (pv 12))) (pss_cons (ps_if (PW.pt (pw_or (pt_cmpR op_ne (C_first_word.call hr6 (by rfl) (pa_cons (pv 5) pa_nil)) (C_law_first.call hr2 (by rfl) (pa_cons (pv 3) (pa_cons (pv 5) pa_nil))) (nomark _)) (pw_or1 (pt_not (pt_val (pe_callB (c_all K) (by rfl) B.all bt_all (pa_cons (pe_lc (own := [("text", 12)]) rfl sc_law.nd (p_list K (pe_slice sl_list (pv 11) po_none (po_some pe_int))) (blkOk_by (by kernel_rfl)) (fun _ _ _ _ _ => (pg_name (i := 12) sc_law.nd rfl (Or.inl rfl))) (fun _ _ _ _ _ => pts_nil) (fun _ _ _ _ _ => (C_law_is_no_word.call hr7 (by rfl) (pa_cons (pv 5) (pa_cons (pv 12) pa_nil))))) pa_nil))))))) (pss_one (ps_ret pe_bl)) pss_nil) (pss_one (ps_if (PW.pt (pw_or (pt_not (pt_val (C_law_end_right.call hr8 (by rfl) (pa_cons (pv 1) (pa_cons (pv 5) pa_nil))))) (pw_or1 (pt_not (pt_val (C_law_is_beyond.call hr7 (by rfl) (pa_cons (pv 5) (pa_cons (pe_un un_neg pe_int) pa_nil)))))))) (pss_one (ps_ret pe_bl)) pss_nil)))))))))))) (pss_one (ps_ret pe_bl)))), ?_⟩
  refine ⟨_, rfl, _, rfl, a, _, rfl, hs, fun p np => ⟨two 3 (by decide), fun d nd => ?_⟩⟩
  have D0 : DrawOk (upd (upd H p (.lst (cutV (xs.map V.int) none (some 63)))) d (.lst [V.ref p, V.int 0, V.int 0])) d p := by
    obtain ⟨ys, hys⟩ : ∃ ys : List Int, cutV (xs.map V.int) none (some 63) = ys.map V.int := ⟨_, by
      unfold cutV
      rw [← List.map_drop, ← List.map_take]⟩
    have e := ne_of_none (upd_same : (upd H p (.lst (cutV (xs.map V.int) none (some 63)))) p = some _) nd
    refine ⟨ys, 0, upd_same, ?_, e⟩
    rw [upd_ne e, upd_same, hys]
  refine ⟨_, rfl, by omega, by omega, for_range (lo := 0) (n := 3) (fun i σ H1 => ∃ (v2 v3 v4 v5 v6 v7 v8 v9 v10 v11 : Option V), σ = [some (.ref a), some (.ref d), v2, v3, v4, v5, v6, v7, v8, v9, v10, v11, none] ∧ DrawOk H1 d p)
    ⟨none, none, none, none, none, none, none, none, none, none, rfl, D0⟩ ?_ ?_⟩
  rotate_left
  · rintro σ H1 ⟨v2, v3, v4, v5, v6, v7, v8, v9, v10, v11, rfl, D1⟩
    exact q H1
  rintro i σ H1 hi ⟨v2, v3, v4, v5, v6, v7, v8, v9, v10, v11, rfl, D1⟩
  refine ⟨_, rfl, d, p, 3, rfl, by decide, D1, fun r H2 hr2 b2 D2 => ⟨_, _, rfl, rfl, ?_⟩⟩
  have ek : V.int ((1 : Int) + ((r : Nat) : Int)) = nV (r + 1) := congrArg V.int (by omega)
  show gName 3 (V.int ((1 : Int) + ((r : Nat) : Int))) _ _ _
  rw [ek]
  have hk : r + 1 ≤ 3 := by omega
  refine ⟨_, rfl, _, rfl, d, p, r + 1, rfl, by omega, hk, D2, fun x pt H3 ok dp wt b3 D3 pat => ?_⟩
  refine ⟨_, rfl, _, rfl, two 1 (by decide), fun pl npl => ?_⟩
  have s4 := same_new npl (.lst [V.ref x])
  have nb : pt.nb + 2 ≤ 375 := Pat.nb_le pt ok 3 dp
  refine ⟨pl, x, pt, r + 1, rfl, upd_same, pat.same s4, ok, by omega, hk, by omega, wt, by omega, fun t rr e T n H4 s5 O acc A => ?_⟩
  refine ⟨_, rfl, r + 1, rfl, hk, fun l H5 s6 nl hl => ?_⟩
  have hal := allT_len hk
  refine ⟨_, rfl, l, rfl, ⟨_, SqL.of hl⟩, fun D nD => ?_⟩
  refine lc_fm (walk_list (K := K) (a := l) (xs := (allT (r + 1) 4).map fun u => V.str (tx u))) nD (fun j => V.str (tx ((allT (r + 1) 4).getD j []))) (fun j => T.acc 0 ((allT (r + 1) 4).getD j [])) (by rw [List.length_map]; exact small1000 (by omega)) (fun H6 s7 => SqL.of (s7 _ _ hl)) ?_ ?_
  · rintro j v H6 H7 hj s7 ⟨rfl, hv⟩ R R0 hR hR0
    rw [List.length_map] at hj
    have hg : (allT (r + 1) 4)[j]? = some ((allT (r + 1) 4).getD j []) := by
      rw [List.getD_eq_getElem?_getD, List.getElem?_eq_getElem hj]
      rfl
    rw [List.getElem?_map, hg] at hv
    obtain rfl := Option.some.inj hv
    have wu := mem_allT.mp (List.mem_of_getElem? hg)
    have w3 : Wd 3 ((allT (r + 1) 4).getD j []) := fun y hy => Nat.lt_of_lt_of_le (wu.2 y hy) hk
    refine ⟨rfl, _, rfl, _, rfl, x, pt, (allT (r + 1) 4).getD j [], r + 1, rfl, (((pat.same s4).same s5).same s6).same s7, ok, hk, by omega, w3, by omega, fun b H8 hb s8 => ⟨b, rfl, ?_⟩⟩
    obtain rfl : T.acc 0 ((allT (r + 1) 4).getD j []) = b := by
      rw [Bool.eq_iff_iff, hb, acc _ wu.2]
    cases hc : T.acc 0 ((allT (r + 1) 4).getD j []) with
    | true => exact iteT ⟨_, rfl, hR hc _ s8⟩
    | false => exact iteF (hR0 hc _ s8)
  intro H6 s7 hD0
  rw [List.length_map] at hD0
  have hD : H6 D = some (.lst ((T.WB (r + 1) 5).map fun u => V.str (tx u))) := by
    rw [hD0, filt_getD (allT (r + 1) 4) [] (T.acc 0) (fun u => V.str (tx u)), filter_allT]
  have hWl : (T.WB (r + 1) 5).length ≤ 121 := by
    rw [← filter_allT]
    exact Nat.le_trans (List.length_filter_le _ _) hal
  have s37 := ((s4.trans s5).trans s6).trans s7
  have A6 : TabAt K H6 t rr e T := (A.same s6).same s7
  have D6 : DrawOk H6 d p := D3.same s37
  have hl6 := s7 _ _ hl
  refine ⟨_, rfl, by omega, by omega, for_range (lo := 0) (n := 5) (fun j σ H7 => ∃ v8 : Option V, σ = [some (.ref a), some (.ref d), some (.int (0 + (i : Nat))), some (nV (r + 1)), some (.ref x), some (.ref t), some (.ref l), some (.ref D), v8, v9, v10, v11, none] ∧ Same H6 H7) ⟨v8, rfl, fun _ _ h => h⟩ ?_ ?_⟩
  · rintro j σ H7 hj ⟨v8', rfl, s8⟩
    have ej : V.int (0 + ((j : Nat) : Int)) = nV j := congrArg V.int (by omega)
    show gName 8 (V.int (0 + ((j : Nat) : Int))) _ _ _
    rw [ej]
    have A7 := A6.same s8
    refine ⟨_, rfl, _, rfl, t, rr, e, T, r + 1, n, j, rfl, A7, O, by omega, fun H8 s9 => ?_⟩
    have hD8 := s9 _ _ (s8 _ _ hD)
    refine ⟨_, rfl, D, rfl, ⟨_, SqL.of hD8⟩, fun D2 nD2 => ?_⟩
    refine lc_fm (walk_list (K := K) (a := D) (xs := (T.WB (r + 1) 5).map fun u => V.str (tx u))) nD2 (fun i => V.str (tx ((T.WB (r + 1) 5).getD i []))) (fun i => decide (((T.WB (r + 1) 5).getD i []).length = j)) (by rw [List.length_map]; exact small1000 (by omega)) (fun H9 s => SqL.of (s _ _ hD8)) ?_ ?_
    · rintro i2 v H9 H10 hi2 s10 ⟨rfl, hv⟩ R R0 hR hR0
      rw [List.length_map] at hi2
      have hg : (T.WB (r + 1) 5)[i2]? = some ((T.WB (r + 1) 5).getD i2 []) := by
        rw [List.getD_eq_getElem?_getD, List.getElem?_eq_getElem hi2]
        rfl
      rw [List.getElem?_map, hg] at hv
      obtain rfl := Option.some.inj hv
      have hu : (T.WB (r + 1) 5).getD i2 [] ∈ (allT (r + 1) 4).filter (T.acc 0) := by
        rw [filter_allT]
        exact List.mem_of_getElem? hg
      have wu := mem_allT.mp (List.mem_filter.mp hu).1
      have e1 : decide (V.int (((tx ((T.WB (r + 1) 5).getD i2 [])).length : Nat) : Int) = nV j) = decide (((T.WB (r + 1) 5).getD i2 []).length = j) := by
        rw [tx_length, Bool.eq_iff_iff, decide_eq_true_iff, decide_eq_true_iff]
        constructor
        · intro h
          have := V.int.inj h
          omega
        · intro h
          rw [h]
          rfl
      refine ⟨rfl, _, rfl, tx ((T.WB (r + 1) 5).getD i2 []), rfl, by rw [tx_length]; exact Nat.le_of_lt (small1000 (by omega)), _, rfl, rfl, _, congrArg V.bl e1, ?_⟩
      cases hc : decide (((T.WB (r + 1) 5).getD i2 []).length = j) with
      | true => exact iteT ⟨_, rfl, hR hc _ (Same.refl _)⟩
      | false => exact iteF (hR0 hc _ (Same.refl _))
    intro H9 s10 hD20
    rw [List.length_map] at hD20
    have hD2 : H9 D2 = some (.lst ((T.W (r + 1) 0 j).map fun u => V.str (tx u))) := by
      rw [hD20, filt_getD (T.WB (r + 1) 5) [] (fun w => decide (w.length = j)) (fun u => V.str (tx u)), len_WB T (r + 1) 5 j hj]
    have e2 : (!decide (nV (T.W (r + 1) 0 j).length = V.int ((((T.W (r + 1) 0 j).map fun u => V.str (tx u)).length : Nat) : Int))) = false := by
      rw [List.length_map, decide_eq_true (show nV (T.W (r + 1) 0 j).length = V.int (((T.W (r + 1) 0 j).length : Nat) : Int) from rfl)]
      rfl
    exact ⟨D2, _, rfl, .inl (SqL.of hD2), rfl, false, congrArg V.bl e2, iteF ⟨_, rfl, (s8.trans s9).trans s10⟩⟩
  rintro σ H7 ⟨v8', rfl, s8⟩
  have hD7 := s8 _ _ hD
  have hl7 := s8 _ _ hl6
  have A7 := A6.same s8
  have D7 := D6.same s8
  refine ⟨_, rfl, _, rfl, D, _, rfl, SqL.of hD7, fun E nE => ?_⟩
  have sE := same_new nE (.lst (cutV ((T.WB (r + 1) 5).map fun u => V.str (tx u)) none (some 40)))
  have hcl : (cutV ((T.WB (r + 1) 5).map fun u => V.str (tx u)) none (some 40)).length ≤ 121 := by
    refine Nat.le_trans (cutV_length _ _ _) ?_
    rw [List.length_map]
    exact hWl
  refine ⟨E, _, rfl, SqL.new, for_it (walk_enum (K := K) (a := E) (xs := cutV ((T.WB (r + 1) 5).map fun u => V.str (tx u)) none (some 40))) (fun _ σ H8 => ∃ v9 v10 : Option V, σ = [some (.ref a), some (.ref d), some (.int (0 + (i : Nat))), some (nV (r + 1)), some (.ref x), some (.ref t), some (.ref l), some (.ref D), v8', v9, v10, v11, none] ∧ Same (upd H7 E (.lst (cutV ((T.WB (r + 1) 5).map fun u => V.str (tx u)) none (some 40)))) H8)
    ⟨v9, v10, rfl, fun _ _ h => h⟩ (fun _ σ H8 _ h => ?_) ?_ ?_⟩
  · obtain ⟨_, _, _, h⟩ := h
    exact SqL.of (h _ _ upd_same)
  · rintro y v σ H8 H9 hy ⟨v9', v10', rfl, s9⟩ ⟨Tp, x1, x2, rfl, nT, rfl, f1, f2⟩
    obtain rfl : V.int ((y : Nat) : Int) = x1 := Option.some.inj f1
    obtain ⟨u, hu, rfl⟩ := cut_get (m := 40) f2
    have sT := same_new nT (.tup [V.int ((y : Nat) : Int), V.str (tx u)])
    have A9 := ((A7.same sE).same s9).same sT
    obtain ⟨N, lft, hN, hsum, hlft⟩ := WB_at 5 y u hu
    obtain ⟨hul, huw, hua⟩ := mem_W.mp (List.mem_of_getElem? hlft)
    have hy121 : y < (T.WB (r + 1) 5).length := (List.getElem?_eq_some_iff.mp hu).1
    have e1 : (!decide (V.str (tx u) = V.str (tx u))) = false := by simp
    have e2 : (!decide (nV (rank T (r + 1) u) = V.int ((y : Nat) : Int))) = false := by
      rw [(rank_of hlft).trans hsum, decide_eq_true (show nV y = V.int ((y : Nat) : Int) from rfl)]
      rfl
    refine ⟨Tp, _, rfl, SqT.new, rfl, _, _, rfl, _, _, rfl, rfl, ?_⟩
    refine ⟨_, rfl, _, rfl, t, rr, e, T, r + 1, n, ((y : Nat) : Int), rfl, A9, O, .inl ⟨y, N, lft, u, rfl, by omega, by omega, hsum, hlft, fun H10 s10 => ⟨_, rfl, rfl, false, congrArg V.bl e1, iteF ?_⟩⟩⟩
    refine ⟨_, rfl, _, rfl, t, rr, e, T, r + 1, n, u, rfl, A9.same s10, O, huw, by omega, fun _ H11 s11 => ⟨_, rfl, rfl, false, congrArg V.bl e2, iteF ⟨_, _, rfl, ((s9.trans sT).trans s10).trans s11⟩⟩, fun hn => ?_⟩
    rw [hua] at hn
    cases hn
  rintro σ H8 ⟨v9', v10', rfl, s9⟩
  have s79 := sE.trans s9
  have hD8 := s79 _ _ hD7
  have hl8 := s79 _ _ hl7
  have A8 := A7.same s79
  have D8 := D7.same s79
  refine ⟨_, rfl, l, rfl, ⟨_, SqL.of hl8⟩, fun D3 nD3 => ?_⟩
  refine lc_fm (walk_list (K := K) (a := l) (xs := (allT (r + 1) 4).map fun u => V.str (tx u))) nD3 (fun j => V.str (tx ((allT (r + 1) 4).getD j []))) (fun j => !decide ((allT (r + 1) 4).getD j [] ∈ T.WB (r + 1) 5)) (by rw [List.length_map]; exact small1000 (by omega)) (fun H9 s => SqL.of (s _ _ hl8)) ?_ ?_
  · rintro j v H9 H10 hj s10 ⟨rfl, hv⟩ R R0 hR hR0
    rw [List.length_map] at hj
    have hg : (allT (r + 1) 4)[j]? = some ((allT (r + 1) 4).getD j []) := by
      rw [List.getD_eq_getElem?_getD, List.getElem?_eq_getElem hj]
      rfl
    rw [List.getElem?_map, hg] at hv
    obtain rfl := Option.some.inj hv
    refine ⟨rfl, _, rfl, _, rfl, D, _, rfl, .inl (SqL.of (s10 _ _ hD8)), rfl, flat_tx _, !decide ((allT (r + 1) 4).getD j [] ∈ T.WB (r + 1) 5), congrArg (fun z => V.bl (!z)) (inV_tx _ _), ?_⟩
    cases hc : decide ((allT (r + 1) 4).getD j [] ∈ T.WB (r + 1) 5) with
    | true => exact iteF (hR0 (by rw [hc]; rfl) _ (Same.refl _))
    | false => exact iteT ⟨_, rfl, hR (by rw [hc]; rfl) _ (Same.refl _)⟩
  intro H9 s10 hD30
  rw [List.length_map] at hD30
  have hD3 : H9 D3 = some (.lst (((allT (r + 1) 4).filter fun u => !decide (u ∈ T.WB (r + 1) 5)).map fun u => V.str (tx u))) := by
    rw [hD30, filt_getD (allT (r + 1) 4) [] (fun u => !decide (u ∈ T.WB (r + 1) 5)) (fun u => V.str (tx u))]
  have A9 := A8.same s10
  have D9 := D8.same s10
  generalize hO : ((allT (r + 1) 4).filter fun u => !decide (u ∈ T.WB (r + 1) 5)) = Ot at hD3
  have hOt : ∀ u, u ∈ Ot → Wd (r + 1) u ∧ u.length ≤ 4 ∧ T.acc 0 u = false := by
    intro u hu
    rw [← hO] at hu
    obtain ⟨h1, h2⟩ := List.mem_filter.mp hu
    obtain ⟨h3, h4⟩ := mem_allT.mp h1
    refine ⟨h4, h3, ?_⟩
    cases hc : T.acc 0 u with
    | false => rfl
    | true =>
      have h5 : u ∈ T.WB (r + 1) 5 := by
        rw [← filter_allT]
        exact List.mem_filter.mpr ⟨h1, hc⟩
      rw [decide_eq_true h5] at h2
      cases h2
  have hOl : Ot.length ≤ 121 := by
    rw [← hO]
    exact Nat.le_trans (List.length_filter_le _ _) hal
  have hsc : scal (match fstW T (r + 1) n with | some u => V.str (tx u) | none => V.non) (match fstW T (r + 1) n with | some u => V.str (tx u) | none => V.non) = true := by
    cases fstW T (r + 1) n <;> rfl
  have e3 : (!decide ((match fstW T (r + 1) n with | some u => V.str (tx u) | none => V.non) = (match fstW T (r + 1) n with | some u => V.str (tx u) | none => V.non))) = false := by
    rw [decide_eq_true rfl]
    rfl
  refine ⟨_, rfl, t, rr, e, T, r + 1, n, rfl, A9, O, fun H10 s11 => ⟨_, rfl, _, rfl, t, rr, e, T, r + 1, n, rfl, A9.same s11, O, fun H11 s12 => ⟨hsc, false, congrArg V.bl e3, iteF ?_⟩⟩⟩
  have s912 := s11.trans s12
  refine ⟨_, rfl, _, rfl, D3, _, rfl, SqL.of (s912 _ _ hD3), fun G nG => ?_⟩
  have sG := same_new nG (.lst (cutV (Ot.map fun u => V.str (tx u)) none (some 9)))
  have hcl9 : (cutV (Ot.map fun u => V.str (tx u)) none (some 9)).length ≤ 121 := by
    refine Nat.le_trans (cutV_length _ _ _) ?_
    rw [List.length_map]
    exact hOl
  refine ⟨G, rfl, ⟨_, SqL.new⟩, fun D4 nD4 => ?_⟩
  refine lc_map (walk_list (K := K) (a := G) (xs := cutV (Ot.map fun u => V.str (tx u)) none (some 9))) nD4 (fun _ => V.bl true) (small1000 (by omega)) (fun H12 s => SqL.of (s _ _ upd_same)) ?_ ?_
  · rintro j v H12 H13 hj s13 ⟨rfl, hv⟩ R hR
    obtain ⟨u, hu, rfl⟩ := cut_get (m := 9) hv
    obtain ⟨h1, h2, h3⟩ := hOt u (List.mem_of_getElem? hu)
    exact ⟨rfl, _, rfl, _, rfl, t, rr, e, T, r + 1, n, u, rfl, (((A9.same s912).same sG).same s13), O, h1, by omega, h3, fun H' s' => hR _ s'⟩
  intro H12 s13 hD4
  have s914 := (s912.trans sG).trans s13
  have eall : ((List.range (cutV (Ot.map fun u => V.str (tx u)) none (some 9)).length).map fun _ => true).all id = true := by
    rw [List.all_map]
    exact List.all_eq_true.mpr fun _ _ => rfl
  refine ⟨D4, (List.range (cutV (Ot.map fun u => V.str (tx u)) none (some 9)).length).map fun _ => true, rfl, SqL.of (by rw [hD4, List.map_map]; rfl), ?_⟩
  rw [eall]
  refine ⟨true, rfl, iteF ?_⟩
  refine ⟨_, rfl, _, rfl, d, p, t, rr, e, T, r + 1, n, rfl, D9.same s914, A9.same s914, O, fun H13 b14 D13 => ⟨true, rfl, iteF ?_⟩⟩
  obtain ⟨⟨ysd, hyd⟩, _, _⟩ := (D9.same s914).some
  have A13 : TabAt K H13 t rr e T := b14.tab hyd (fun _ z => nomatch z) (fun _ _ z => nomatch z) (A9.same s914)
  refine ⟨_, rfl, _, rfl, t, rr, e, T, r + 1, n, (-1 : Int), rfl, A13, O, .inl (by decide), fun H14 s15 => ⟨true, rfl, iteF ?_⟩⟩
  exact ⟨_, _, _, _, _, _, _, _, _, _, rfl, D13.same s15⟩
end
end Own
namespace Own
open PySem PySem.Spec PyProof.Rows L2
theorem Got.of {P : Program} {w : World} {K : PySem.W.Frag} {mg : Str → Option Value} {base : Heap} {CX : CXT} {k : Nat} {x : Str} {ps : List Str} {sp : Sp} {f : Addr} {fd : FuncData} (F : FnOk P w K mg base CX k f fd ps sp) (b : Binds K fd ps []) (kp : PySem.W.keepIn K (.ref f) = true) (m : mg x = some (.ref f)) : Got P w K mg base CX k x ps sp := ⟨f, fd, F, b, kp, m⟩
theorem GotX.of {P : Program} {w : World} {K : PySem.W.Frag} {mg : Str → Option Value} {base : Heap} {k : Nat} {x : Str} {ps : List Str} {sp : Sp} {f : Addr} {fd : FuncData} (F : FnOk P w K mg base (L2.CX P w) k f fd ps sp) (b : Binds K fd ps []) (kp : PySem.W.keepIn K (.ref f) = true) (m : mg x = some (.ref f)) : GotX P w K mg base k x ps sp := ⟨f, fd, F, b, kp, m⟩
/-- the class is its own clause's -/
theorem own_clause {K : PySem.W.Frag} {S : Addr} (h1 : PySem.W.subIn K (.ref S) (.type "BaseException") = some true) (h2 : PySem.W.isClsIn K S = true) (h3 : PySem.W.typeIn K (.ref S) = some (.type "type")) (h4 : PySem.W.subIn K (.ref S) (.ref S) = some true) :
    PySem.W.exmOne K (.ref S) (.ref S) = some true := by
  have g1 : (PySem.W.subIn K (.ref S) (.type "BaseException") == some true) = true := by
    rw [h1]
    rfl
  have g2 : ((PySem.W.clsIn K S).isSome && PySem.W.typeIn K (.ref S) == some (.type "type")) = true := by
    rw [show (PySem.W.clsIn K S).isSome = true from h2, h3]
    rfl
  show (if (PySem.W.subIn K (.ref S) (.type "BaseException") == some true) = true then _ else none) = some true
  rw [if_pos g1]
  show (if ((PySem.W.clsIn K S).isSome && PySem.W.typeIn K (.ref S) == some (.type "type")) = true then _ else none) = some true
  rw [if_pos g2]
  exact h4
/-- a def as the module's top has left it -/
structure DefK (K : PySem.W.Frag) (x : Str) (st : Stmt) (f : Addr) (fd : FuncData) : Prop where
  a : PySem.W.nsIn K mainGlobals x = some (some (.ref f))
  F : Fun K x x st f fd
theorem DefK.of {K : PySem.W.Frag} {x : Str} {st : Stmt} {f : Addr} {od an : Option Addr} {sl : Array (Option Value)} {oc kV dc pm cd ct : Value}
    (a : PySem.W.nsIn K mainGlobals x = some (some (.ref f))) (l : K.lookup f = some ⟨oc, od, .func (PySem.W.fnOf x x (defArgs st) (defBody st) (defScope st) .none kV dc pm an cd ct), sl⟩) (c : PySem.W.codeIn K cd x = true) (k : PySem.W.keepIn K (.ref f) = true) :
    DefK K x st f (PySem.W.fnOf x x (defArgs st) (defBody st) (defScope st) .none kV dc pm an cd ct) := ⟨a, fun_mk l c k⟩
/-- what the module holds beside its defs -/
theorem bt_mk {K : PySem.W.Frag} {h : Heap} {mg : Str → Option Value} (X : K.In h) (G : h.Ns mainGlobals mg)
    (z0 : PySem.W.nsIn K mainGlobals "len" = some none) (z1 : PySem.W.nsIn K mainGlobals "isinstance" = some none) (z2 : PySem.W.nsIn K mainGlobals "sum" = some none) (z3 : PySem.W.nsIn K mainGlobals "max" = some none) (z4 : PySem.W.nsIn K mainGlobals "min" = some none) (z5 : PySem.W.nsIn K mainGlobals "all" = some none) (z6 : PySem.W.nsIn K mainGlobals "any" = some none) (z7 : PySem.W.nsIn K mainGlobals "sorted" = some none) (z8 : PySem.W.nsIn K mainGlobals "list" = some none) (z9 : PySem.W.nsIn K mainGlobals "tuple" = some none) (z10 : PySem.W.nsIn K mainGlobals "int" = some none) (z11 : PySem.W.nsIn K mainGlobals "set" = some none) (z12 : PySem.W.nsIn K mainGlobals "bool" = some none) (z13 : PySem.W.nsIn K mainGlobals "str" = some none) (z14 : PySem.W.nsIn K mainGlobals "range" = some none) (z15 : PySem.W.nsIn K mainGlobals "enumerate" = some none)
    (y0 : ∃ t, PySem.W.nsIn K mainGlobals "LETTERS" = some (some (.str "abc" t))) (y1 : ∃ t, PySem.W.nsIn K mainGlobals "MOST_STANDS" = some (some (.int 40 t))) (y2 : ∃ t, PySem.W.nsIn K mainGlobals "MOST_LENGTH" = some (some (.int 60 t))) (y3 : ∃ t, PySem.W.nsIn K mainGlobals "MOST_INDEX" = some (some (.int 9999 t))) : Bt mg :=
  ⟨PySem.W.mg_none_of X G z0, PySem.W.mg_none_of X G z1, PySem.W.mg_none_of X G z2, PySem.W.mg_none_of X G z3, PySem.W.mg_none_of X G z4, PySem.W.mg_none_of X G z5, PySem.W.mg_none_of X G z6, PySem.W.mg_none_of X G z7, PySem.W.mg_none_of X G z8, PySem.W.mg_none_of X G z9, PySem.W.mg_none_of X G z10, PySem.W.mg_none_of X G z11, PySem.W.mg_none_of X G z12, PySem.W.mg_none_of X G z13, PySem.W.mg_none_of X G z14, PySem.W.mg_none_of X G z15, y0.elim fun t h => ⟨t, PySem.W.mg_of X G h⟩, y1.elim fun t h => ⟨t, PySem.W.mg_of X G h⟩, y2.elim fun t h => ⟨t, PySem.W.mg_of X G h⟩, y3.elim fun t h => ⟨t, PySem.W.mg_of X G h⟩⟩
theorem exc_mk {K : PySem.W.Frag} {h : Heap} {mg : Str → Option Value} {x : Str} {C : Addr} (X : K.In h) (G : h.Ns mainGlobals mg) (a : PySem.W.nsIn K mainGlobals x = some (some (.ref C))) (e : PySem.W.excIn K C [.type "ValueError", .type "Exception", .type "BaseException", .type "object"] "ValueError.__new__" = true)
    (k : PySem.W.keepIn K (.ref C) = true) (b : PySem.W.subIn K (.ref C) (.type "BaseException") = some true) (t : PySem.W.typeIn K (.ref C) = some (.type "type")) (i : PySem.W.isClsIn K C = true) (s : PySem.W.subIn K (.ref C) (.ref C) = some true) : ExcT K mg x C :=
  ⟨PySem.W.mg_of X G a, e, k, b, t, own_clause b i t s⟩
section
variable {P : Program} {w : World} {K : PySem.W.Frag} {mg : Str → Option Value} {base h : Heap}
set_option maxHeartbeats 8000000 in
theorem defs_ok (X : K.In h) (G : h.Ns mainGlobals mg) (B : Bt mg) {CI CW : Addr} (EI : ExcT K mg "BadIndex" CI) (EW : ExcT K mg "NoWord" CW)
    {f0 : Addr} {fd0 : FuncData} (D0 : DefK K "is_integer" s_is_integer f0 fd0)
    {f1 : Addr} {fd1 : FuncData} (D1 : DefK K "is_between" s_is_between f1 fd1)
    {f2 : Addr} {fd2 : FuncData} (D2 : DefK K "is_text" s_is_text f2 fd2)
    {f3 : Addr} {fd3 : FuncData} (D3 : DefK K "is_tuple_of" s_is_tuple_of f3 fd3)
    {f4 : Addr} {fd4 : FuncData} (D4 : DefK K "table_size" s_table_size f4 fd4)
    {f5 : Addr} {fd5 : FuncData} (D5 : DefK K "stand_after" s_stand_after f5 fd5)
    {f6 T0 : Addr} {oc6 kV6 dc6 pm6 cd6 ct6 oT v0 : Value} {od6 an6 dT : Option Addr} {sl6 slT : Array (Option Value)} {nT : Nat}
    (a6 : PySem.W.nsIn K mainGlobals "first_texts" = some (some (.ref f6))) (l6 : K.lookup f6 = some ⟨oc6, od6, .func (PySem.W.fnOf "first_texts" "first_texts" (defArgs s_first_texts) (defBody s_first_texts) (defScope s_first_texts) (.ref T0) kV6 dc6 pm6 an6 cd6 ct6), sl6⟩) (c6 : PySem.W.codeIn K cd6 "first_texts" = true) (k6 : PySem.W.keepIn K (.ref f6) = true)
    (lT : K.lookup T0 = some ⟨oT, dT, .seq #[v0] nT, slT⟩) (vT : RelV (.int 0) v0)
    {f7 : Addr} {fd7 : FuncData} (D7 : DefK K "letter_numbers" s_letter_numbers f7 fd7)
    {f8 : Addr} {fd8 : FuncData} (D8 : DefK K "check_text" s_check_text f8 fd8)
    {f9 : Addr} {fd9 : FuncData} (D9 : DefK K "_are_rows" s_are_rows f9 fd9)
    {f10 : Addr} {fd10 : FuncData} (D10 : DefK K "is_table" s_is_table f10 fd10)
    {f11 : Addr} {fd11 : FuncData} (D11 : DefK K "check_table" s_check_table f11 fd11)
    {f12 : Addr} {fd12 : FuncData} (D12 : DefK K "leading_to" s_leading_to f12 fd12)
    {f13 : Addr} {fd13 : FuncData} (D13 : DefK K "_useful" s_useful f13 fd13)
    {f14 : Addr} {fd14 : FuncData} (D14 : DefK K "_first_level" s_first_level f14 fd14)
    {f15 : Addr} {fd15 : FuncData} (D15 : DefK K "_next_level" s_next_level f15 fd15)
    {f16 : Addr} {fd16 : FuncData} (D16 : DefK K "_words_in" s_words_in f16 fd16)
    {f17 : Addr} {fd17 : FuncData} (D17 : DefK K "count_words" s_count_words f17 fd17)
    {f18 : Addr} {fd18 : FuncData} (D18 : DefK K "_counts" s_counts f18 fd18)
    {f19 : Addr} {fd19 : FuncData} (D19 : DefK K "how_many" s_how_many f19 fd19)
    {f20 : Addr} {fd20 : FuncData} (D20 : DefK K "longest" s_longest f20 fd20)
    {f21 : Addr} {fd21 : FuncData} (D21 : DefK K "_levels_to" s_levels_to f21 fd21)
    {f22 : Addr} {fd22 : FuncData} (D22 : DefK K "_counts_left" s_counts_left f22 fd22)
    {f23 : Addr} {fd23 : FuncData} (D23 : DefK K "nth_word" s_nth_word f23 fd23)
    {f24 : Addr} {fd24 : FuncData} (D24 : DefK K "word_index" s_word_index f24 fd24)
    {f25 : Addr} {fd25 : FuncData} (D25 : DefK K "first_word" s_first_word f25 fd25)
    {f26 : Addr} {fd26 : FuncData} (D26 : DefK K "_law_cell_at" s_law_cell_at f26 fd26)
    {f27 : Addr} {fd27 : FuncData} (D27 : DefK K "_law_draw" s_law_draw f27 fd27)
    {f28 : Addr} {fd28 : FuncData} (D28 : DefK K "_law_number" s_law_number f28 fd28)
    {f29 : Addr} {fd29 : FuncData} (D29 : DefK K "_law_next" s_law_next f29 fd29)
    {f30 : Addr} {fd30 : FuncData} (D30 : DefK K "_law_pick" s_law_pick f30 fd30)
    {f31 : Addr} {fd31 : FuncData} (D31 : DefK K "_law_letters" s_law_letters f31 fd31)
    {f32 : Addr} {fd32 : FuncData} (D32 : DefK K "_law_many" s_law_many f32 fd32)
    {f33 : Addr} {fd33 : FuncData} (D33 : DefK K "_law_grown" s_law_grown f33 fd33)
    {f34 : Addr} {fd34 : FuncData} (D34 : DefK K "_law_inner" s_law_inner f34 fd34)
    {f35 : Addr} {fd35 : FuncData} (D35 : DefK K "_law_parts" s_law_parts f35 fd35)
    {f36 : Addr} {fd36 : FuncData} (D36 : DefK K "_law_weight" s_law_weight f36 fd36)
    {f37 : Addr} {fd37 : FuncData} (D37 : DefK K "_law_pattern" s_law_pattern f37 fd37)
    {f38 : Addr} {fd38 : FuncData} (D38 : DefK K "_law_ends_all" s_law_ends_all f38 fd38)
    {f39 : Addr} {fd39 : FuncData} (D39 : DefK K "_law_ends_again" s_law_ends_again f39 fd39)
    {f40 : Addr} {fd40 : FuncData} (D40 : DefK K "_law_ends" s_law_ends f40 fd40)
    {f41 : Addr} {fd41 : FuncData} (D41 : DefK K "_law_has" s_law_has f41 fd41)
    {f42 : Addr} {fd42 : FuncData} (D42 : DefK K "_law_node" s_law_node f42 fd42)
    {f43 : Addr} {fd43 : FuncData} (D43 : DefK K "_law_wire_again" s_law_wire_again f43 fd43)
    {f44 : Addr} {fd44 : FuncData} (D44 : DefK K "_law_wire" s_law_wire f44 fd44)
    {f45 : Addr} {fd45 : FuncData} (D45 : DefK K "_law_still" s_law_still f45 fd45)
    {f46 : Addr} {fd46 : FuncData} (D46 : DefK K "_law_step" s_law_step f46 fd46)
    {f47 : Addr} {fd47 : FuncData} (D47 : DefK K "_law_classes" s_law_classes f47 fd47)
    {f48 : Addr} {fd48 : FuncData} (D48 : DefK K "_law_least" s_law_least f48 fd48)
    {f49 : Addr} {fd49 : FuncData} (D49 : DefK K "_law_table" s_law_table f49 fd49)
    {f50 : Addr} {fd50 : FuncData} (D50 : DefK K "_law_lead" s_law_lead f50 fd50)
    {f51 : Addr} {fd51 : FuncData} (D51 : DefK K "_law_texts" s_law_texts f51 fd51)
    {f52 : Addr} {fd52 : FuncData} (D52 : DefK K "_law_is_no_word" s_law_is_no_word f52 fd52)
    {f53 : Addr} {fd53 : FuncData} (D53 : DefK K "_law_is_beyond" s_law_is_beyond f53 fd53)
    {f54 : Addr} {fd54 : FuncData} (D54 : DefK K "_law_first" s_law_first f54 fd54)
    {f55 : Addr} {fd55 : FuncData} (D55 : DefK K "_law_end_right" s_law_end_right f55 fd55)
    {f56 : Addr} {fd56 : FuncData} (D56 : DefK K "law" s_law f56 fd56)
    : Binds K fd56 ["script"] [] ∧ FnOk P w K mg base CX0 15 f56 fd56 ["script"] (sp_law K) := by
  have b0 := D0.F.binds (ps := ["value"]) fun _ _ _ _ _ _ us hl => match us, hl with | [_], _ => rfl
  have C_is_integer := Got.of (x := "is_integer") (ok_is_integer (P := P) (w := w) (base := base) D0.F B) b0 D0.F.kp (PySem.W.mg_of X G D0.a)
  have b1 := D1.F.binds (ps := ["value", "low", "high"]) fun _ _ _ _ _ _ us hl => match us, hl with | [_, _, _], _ => rfl
  have C_is_between := Got.of (x := "is_between") (ok_is_between (P := P) (w := w) (base := base) D1.F B C_is_integer) b1 D1.F.kp (PySem.W.mg_of X G D1.a)
  have b2 := D2.F.binds (ps := ["size", "value"]) fun _ _ _ _ _ _ us hl => match us, hl with | [_, _], _ => rfl
  have C_is_text := Got.of (x := "is_text") (ok_is_text (P := P) (w := w) (base := base) D2.F B) b2 D2.F.kp (PySem.W.mg_of X G D2.a)
  have b3 := D3.F.binds (ps := ["value", "many"]) fun _ _ _ _ _ _ us hl => match us, hl with | [_, _], _ => rfl
  have C_is_tuple_of := Got.of (x := "is_tuple_of") (ok_is_tuple_of (P := P) (w := w) (base := base) D3.F B) b3 D3.F.kp (PySem.W.mg_of X G D3.a)
  have b4 := D4.F.binds (ps := ["table"]) fun _ _ _ _ _ _ us hl => match us, hl with | [_], _ => rfl
  have C_table_size := Got.of (x := "table_size") (ok_table_size (P := P) (w := w) (base := base) D4.F B) b4 D4.F.kp (PySem.W.mg_of X G D4.a)
  have b5 := D5.F.binds (ps := ["rows", "stand", "letters"]) fun _ _ _ _ _ _ us hl => match us, hl with | [_, _, _], _ => rfl
  have C_stand_after := Got.of (x := "stand_after") (ok_stand_after (P := P) (w := w) (base := base) D5.F B) b5 D5.F.kp (PySem.W.mg_of X G D5.a)
  have F6 : FunD K "first_texts" "first_texts" (defArgs s_first_texts) (defBody s_first_texts) (defScope s_first_texts) [.int 0] [] f6 _ := ⟨⟨oc6, od6, .ref T0, kV6, dc6, pm6, an6, cd6, ct6, sl6, rfl, l6, c6, .inr ⟨(fun z => nomatch z), T0, _, [v0], nT, rfl, lT, rfl, .cons vT .nil⟩, .inl rfl⟩, k6⟩
  obtain ⟨ds, rds, b6⟩ := F6.binds1 (ps := ["rows", "start"]) 1 0 (fun z => nomatch z) rfl fun _ _ _ _ _ _ _ us its h1 h2 => match us, its, h1, h2 with | [_], [_], _, _ => ⟨_, rfl, rfl⟩
  have C_first_texts : GotD P w K mg base CX0 1 "first_texts" ["rows", "start"] [.int 0] (sp_first_texts K) := ⟨f6, _, ds, ok_first_texts F6 B, b6, rds, k6, PySem.W.mg_of X G a6⟩
  have b7 := D7.F.binds (ps := ["text"]) fun _ _ _ _ _ _ us hl => match us, hl with | [_], _ => rfl
  have C_letter_numbers := Got.of (x := "letter_numbers") (ok_letter_numbers (P := P) (w := w) (base := base) D7.F B) b7 D7.F.kp (PySem.W.mg_of X G D7.a)
  have b8 := D8.F.binds (ps := ["size", "text"]) fun _ _ _ _ _ _ us hl => match us, hl with | [_, _], _ => rfl
  have C_check_text := Got.of (x := "check_text") (ok_check_text (P := P) (w := w) (base := base) D8.F B C_is_text) b8 D8.F.kp (PySem.W.mg_of X G D8.a)
  have b9 := D9.F.binds (ps := ["rows"]) fun _ _ _ _ _ _ us hl => match us, hl with | [_], _ => rfl
  have C_are_rows := Got.of (x := "_are_rows") (ok_are_rows (P := P) (w := w) (base := base) D9.F B C_is_tuple_of C_is_between) b9 D9.F.kp (PySem.W.mg_of X G D9.a)
  have b10 := D10.F.binds (ps := ["table"]) fun _ _ _ _ _ _ us hl => match us, hl with | [_], _ => rfl
  have C_is_table := Got.of (x := "is_table") (ok_is_table (P := P) (w := w) (base := base) D10.F B C_is_tuple_of C_are_rows C_first_texts) b10 D10.F.kp (PySem.W.mg_of X G D10.a)
  have b11 := D11.F.binds (ps := ["table"]) fun _ _ _ _ _ _ us hl => match us, hl with | [_], _ => rfl
  have C_check_table := Got.of (x := "check_table") (ok_check_table (P := P) (w := w) (base := base) D11.F B C_is_table) b11 D11.F.kp (PySem.W.mg_of X G D11.a)
  have b12 := D12.F.binds (ps := ["rows", "marked"]) fun _ _ _ _ _ _ us hl => match us, hl with | [_, _], _ => rfl
  have C_leading_to := Got.of (x := "leading_to") (ok_leading_to (P := P) (w := w) (base := base) D12.F B) b12 D12.F.kp (PySem.W.mg_of X G D12.a)
  have b13 := D13.F.binds (ps := ["table"]) fun _ _ _ _ _ _ us hl => match us, hl with | [_], _ => rfl
  have C_useful := Got.of (x := "_useful") (ok_useful (P := P) (w := w) (base := base) D13.F B C_leading_to) b13 D13.F.kp (PySem.W.mg_of X G D13.a)
  have b14 := D14.F.binds (ps := ["useful"]) fun _ _ _ _ _ _ us hl => match us, hl with | [_], _ => rfl
  have C_first_level := Got.of (x := "_first_level") (ok_first_level (P := P) (w := w) (base := base) D14.F B) b14 D14.F.kp (PySem.W.mg_of X G D14.a)
  have b15 := D15.F.binds (ps := ["table", "useful", "level"]) fun _ _ _ _ _ _ us hl => match us, hl with | [_, _, _], _ => rfl
  have C_next_level := Got.of (x := "_next_level") (ok_next_level (P := P) (w := w) (base := base) D15.F B) b15 D15.F.kp (PySem.W.mg_of X G D15.a)
  have b16 := D16.F.binds (ps := ["table", "level"]) fun _ _ _ _ _ _ us hl => match us, hl with | [_, _], _ => rfl
  have C_words_in := Got.of (x := "_words_in") (ok_words_in (P := P) (w := w) (base := base) D16.F B) b16 D16.F.kp (PySem.W.mg_of X G D16.a)
  have b17 := D17.F.binds (ps := ["table", "length"]) fun _ _ _ _ _ _ us hl => match us, hl with | [_, _], _ => rfl
  have C_count_words := Got.of (x := "count_words") (ok_count_words (P := P) (w := w) (base := base) D17.F B C_check_table C_is_between C_useful C_first_level C_next_level C_words_in) b17 D17.F.kp (PySem.W.mg_of X G D17.a)
  have b18 := D18.F.binds (ps := ["table"]) fun _ _ _ _ _ _ us hl => match us, hl with | [_], _ => rfl
  have C_counts := Got.of (x := "_counts") (ok_counts (P := P) (w := w) (base := base) D18.F B C_useful C_first_level C_next_level C_words_in) b18 D18.F.kp (PySem.W.mg_of X G D18.a)
  have b19 := D19.F.binds (ps := ["table"]) fun _ _ _ _ _ _ us hl => match us, hl with | [_], _ => rfl
  have C_how_many := Got.of (x := "how_many") (ok_how_many (P := P) (w := w) (base := base) D19.F B C_check_table C_counts) b19 D19.F.kp (PySem.W.mg_of X G D19.a)
  have b20 := D20.F.binds (ps := ["table"]) fun _ _ _ _ _ _ us hl => match us, hl with | [_], _ => rfl
  have C_longest := Got.of (x := "longest") (ok_longest (P := P) (w := w) (base := base) D20.F B C_check_table C_counts) b20 D20.F.kp (PySem.W.mg_of X G D20.a)
  have b21 := D21.F.binds (ps := ["table", "index"]) fun _ _ _ _ _ _ us hl => match us, hl with | [_, _], _ => rfl
  have C_levels_to := GotX.of (x := "_levels_to") (ok_levels_to (P := P) (w := w) (base := base) D21.F B EI C_useful C_first_level C_next_level C_words_in) b21 D21.F.kp (PySem.W.mg_of X G D21.a)
  have b22 := D22.F.binds (ps := ["table", "levels"]) fun _ _ _ _ _ _ us hl => match us, hl with | [_, _], _ => rfl
  have C_counts_left := Got.of (x := "_counts_left") (ok_counts_left (P := P) (w := w) (base := base) D22.F B) b22 D22.F.kp (PySem.W.mg_of X G D22.a)
  have b23 := D23.F.binds (ps := ["table", "index"]) fun _ _ _ _ _ _ us hl => match us, hl with | [_, _], _ => rfl
  have C_nth_word := GotX.of (x := "nth_word") (ok_nth_word (P := P) (w := w) (base := base) D23.F B EI C_check_table C_is_between C_levels_to C_counts_left) b23 D23.F.kp (PySem.W.mg_of X G D23.a)
  have b24 := D24.F.binds (ps := ["table", "text"]) fun _ _ _ _ _ _ us hl => match us, hl with | [_, _], _ => rfl
  have C_word_index := GotX.of (x := "word_index") (ok_word_index (P := P) (w := w) (base := base) D24.F B EW C_check_table C_check_text C_table_size C_letter_numbers C_stand_after C_useful C_first_level C_next_level C_words_in) b24 D24.F.kp (PySem.W.mg_of X G D24.a)
  have b25 := D25.F.binds (ps := ["table"]) fun _ _ _ _ _ _ us hl => match us, hl with | [_], _ => rfl
  have C_first_word := Got.of (x := "first_word") (ok_first_word (P := P) (w := w) (base := base) D25.F B C_check_table C_first_texts) b25 D25.F.kp (PySem.W.mg_of X G D25.a)
  have b26 := D26.F.binds (ps := ["script", "k"]) fun _ _ _ _ _ _ us hl => match us, hl with | [_, _], _ => rfl
  have C_law_cell_at := Got.of (x := "_law_cell_at") (ok_law_cell_at (P := P) (w := w) (base := base) D26.F B) b26 D26.F.kp (PySem.W.mg_of X G D26.a)
  have b27 := D27.F.binds (ps := ["cell", "k", "bound"]) fun _ _ _ _ _ _ us hl => match us, hl with | [_, _, _], _ => rfl
  have C_law_draw := Got.of (x := "_law_draw") (ok_law_draw (P := P) (w := w) (base := base) D27.F B) b27 D27.F.kp (PySem.W.mg_of X G D27.a)
  have b28 := D28.F.binds (ps := ["cell", "k", "bound"]) fun _ _ _ _ _ _ us hl => match us, hl with | [_, _, _], _ => rfl
  have C_law_number := Got.of (x := "_law_number") (ok_law_number (P := P) (w := w) (base := base) D28.F B C_law_draw) b28 D28.F.kp (PySem.W.mg_of X G D28.a)
  have b29 := D29.F.binds (ps := ["draw", "bound"]) fun _ _ _ _ _ _ us hl => match us, hl with | [_, _], _ => rfl
  have C_law_next := Got.of (x := "_law_next") (ok_law_next (P := P) (w := w) (base := base) D29.F B C_law_cell_at C_law_number) b29 D29.F.kp (PySem.W.mg_of X G D29.a)
  have b30 := D30.F.binds (ps := ["draw", "things"]) fun _ _ _ _ _ _ us hl => match us, hl with | [_, _], _ => rfl
  have C_law_pick := Got.of (x := "_law_pick") (ok_law_pick (P := P) (w := w) (base := base) D30.F B C_law_next) b30 D30.F.kp (PySem.W.mg_of X G D30.a)
  have b31 := D31.F.binds (ps := ["draw", "size"]) fun _ _ _ _ _ _ us hl => match us, hl with | [_, _], _ => rfl
  have C_law_letters := Got.of (x := "_law_letters") (ok_law_letters (P := P) (w := w) (base := base) D31.F B C_law_next) b31 D31.F.kp (PySem.W.mg_of X G D31.a)
  have b32 := D32.F.binds (ps := ["draw", "part"]) fun _ _ _ _ _ _ us hl => match us, hl with | [_, _], _ => rfl
  have C_law_many := Got.of (x := "_law_many") (ok_law_many (P := P) (w := w) (base := base) D32.F B C_law_pick) b32 D32.F.kp (PySem.W.mg_of X G D32.a)
  have b33 := D33.F.binds (ps := ["draw", "size", "deep"]) fun _ _ _ _ _ _ us hl => match us, hl with | [_, _, _], _ => rfl
  have C_law_grown : Got P w K mg base CX0 9 "_law_grown" ["draw", "size", "deep"] (sp_law_grown K 4) := Got.of (ok_law_grown (P := P) (w := w) (base := base) D33.F B C_law_next C_law_pick C_law_letters C_law_many (fun k sp g => Got.of g b33 D33.F.kp (PySem.W.mg_of X G D33.a)) 4) b33 D33.F.kp (PySem.W.mg_of X G D33.a)
  have b34 := D34.F.binds (ps := ["pattern"]) fun _ _ _ _ _ _ us hl => match us, hl with | [_], _ => rfl
  have C_law_inner := Got.of (x := "_law_inner") (ok_law_inner (P := P) (w := w) (base := base) D34.F B) b34 D34.F.kp (PySem.W.mg_of X G D34.a)
  have b35 := D35.F.binds (ps := ["pattern"]) fun _ _ _ _ _ _ us hl => match us, hl with | [_], _ => rfl
  have C_law_parts : Got P w K mg base CX0 5 "_law_parts" ["pattern"] (sp_law_parts K 4) := Got.of (ok_law_parts (P := P) (w := w) (base := base) D35.F B C_law_inner (fun k sp g => Got.of g b35 D35.F.kp (PySem.W.mg_of X G D35.a)) 4) b35 D35.F.kp (PySem.W.mg_of X G D35.a)
  have b36 := D36.F.binds (ps := ["pattern"]) fun _ _ _ _ _ _ us hl => match us, hl with | [_], _ => rfl
  have C_law_weight : Got P w K mg base CX0 5 "_law_weight" ["pattern"] (sp_law_weight K 4) := Got.of (ok_law_weight (P := P) (w := w) (base := base) D36.F B C_law_inner (fun k sp g => Got.of g b36 D36.F.kp (PySem.W.mg_of X G D36.a)) 4) b36 D36.F.kp (PySem.W.mg_of X G D36.a)
  have b37 := D37.F.binds (ps := ["draw", "size", "most"]) fun _ _ _ _ _ _ us hl => match us, hl with | [_, _, _], _ => rfl
  have C_law_pattern := Got.of (x := "_law_pattern") (ok_law_pattern (P := P) (w := w) (base := base) D37.F B C_law_grown C_law_letters C_law_parts C_law_weight) b37 D37.F.kp (PySem.W.mg_of X G D37.a)
  have b38 := D38.F.binds (ps := ["pattern", "text", "places"]) fun _ _ _ _ _ _ us hl => match us, hl with | [_, _, _], _ => rfl
  have b39 := D39.F.binds (ps := ["pattern", "text", "at"]) fun _ _ _ _ _ _ us hl => match us, hl with | [_, _, _], _ => rfl
  have b40 := D40.F.binds (ps := ["pattern", "text", "at"]) fun _ _ _ _ _ _ us hl => match us, hl with | [_, _, _], _ => rfl
  have C_law_ends : Got P w K mg base CX0 13 "_law_ends" ["pattern", "text", "at"] (sp_law_ends K 4) := Got.of (ok_law_ends (P := P) (w := w) (base := base) D40.F D38.F D39.F B (fun k sp g => Got.of g b40 D40.F.kp (PySem.W.mg_of X G D40.a)) (fun k sp g => Got.of g b38 D38.F.kp (PySem.W.mg_of X G D38.a)) (fun k sp g => Got.of g b39 D39.F.kp (PySem.W.mg_of X G D39.a)) 4) b40 D40.F.kp (PySem.W.mg_of X G D40.a)
  have b41 := D41.F.binds (ps := ["pattern", "text"]) fun _ _ _ _ _ _ us hl => match us, hl with | [_, _], _ => rfl
  have C_law_has := Got.of (x := "_law_has") (ok_law_has (P := P) (w := w) (base := base) (m := 4) (n := 13) D41.F B C_law_ends) b41 D41.F.kp (PySem.W.mg_of X G D41.a)
  have b42 := D42.F.binds (ps := ["net"]) fun _ _ _ _ _ _ us hl => match us, hl with | [_], _ => rfl
  have C_law_node := Got.of (x := "_law_node") (ok_law_node (P := P) (w := w) (base := base) D42.F B) b42 D42.F.kp (PySem.W.mg_of X G D42.a)
  have b43 := D43.F.binds (ps := ["net", "pattern", "begin"]) fun _ _ _ _ _ _ us hl => match us, hl with | [_, _, _], _ => rfl
  have b44 := D44.F.binds (ps := ["net", "pattern", "begin"]) fun _ _ _ _ _ _ us hl => match us, hl with | [_, _, _], _ => rfl
  have C_law_wire : Got P w K mg base CX0 9 "_law_wire" ["net", "pattern", "begin"] (sp_law_wire K 4) := Got.of (ok_law_wire (P := P) (w := w) (base := base) D44.F D43.F B C_law_node (fun k sp g => Got.of g b44 D44.F.kp (PySem.W.mg_of X G D44.a)) (fun k sp g => Got.of g b43 D43.F.kp (PySem.W.mg_of X G D43.a)) 4) b44 D44.F.kp (PySem.W.mg_of X G D44.a)
  have b45 := D45.F.binds (ps := ["net", "nodes"]) fun _ _ _ _ _ _ us hl => match us, hl with | [_, _], _ => rfl
  have C_law_still := Got.of (x := "_law_still") (ok_law_still (P := P) (w := w) (base := base) D45.F B) b45 D45.F.kp (PySem.W.mg_of X G D45.a)
  have b46 := D46.F.binds (ps := ["net", "nodes", "letter"]) fun _ _ _ _ _ _ us hl => match us, hl with | [_, _, _], _ => rfl
  have C_law_step := Got.of (x := "_law_step") (ok_law_step (P := P) (w := w) (base := base) D46.F B C_law_still) b46 D46.F.kp (PySem.W.mg_of X G D46.a)
  have b47 := D47.F.binds (ps := ["things"]) fun _ _ _ _ _ _ us hl => match us, hl with | [_], _ => rfl
  have C_law_classes := Got.of (x := "_law_classes") (ok_law_classes (P := P) (w := w) (base := base) D47.F B) b47 D47.F.kp (PySem.W.mg_of X G D47.a)
  have b48 := D48.F.binds (ps := ["rows", "marks"]) fun _ _ _ _ _ _ us hl => match us, hl with | [_, _], _ => rfl
  have C_law_least := Got.of (x := "_law_least") (ok_law_least (P := P) (w := w) (base := base) D48.F B C_law_classes) b48 D48.F.kp (PySem.W.mg_of X G D48.a)
  have b49 := D49.F.binds (ps := ["size", "patterns", "is_rules"]) fun _ _ _ _ _ _ us hl => match us, hl with | [_, _, _], _ => rfl
  have C_law_table := Got.of (x := "_law_table") (ok_law_table (P := P) (w := w) (base := base) D49.F B C_law_node C_law_wire C_law_still C_law_step C_law_least) b49 D49.F.kp (PySem.W.mg_of X G D49.a)
  have b50 := D50.F.binds (ps := ["rows", "stand", "text"]) fun _ _ _ _ _ _ us hl => match us, hl with | [_, _, _], _ => rfl
  have C_law_lead := Got.of (x := "_law_lead") (ok_law_lead (P := P) (w := w) (base := base) D50.F B) b50 D50.F.kp (PySem.W.mg_of X G D50.a)
  have b51 := D51.F.binds (ps := ["size", "most"]) fun _ _ _ _ _ _ us hl => match us, hl with | [_, _], _ => rfl
  have C_law_texts := Got.of (x := "_law_texts") (ok_law_texts (P := P) (w := w) (base := base) D51.F B) b51 D51.F.kp (PySem.W.mg_of X G D51.a)
  have b52 := D52.F.binds (ps := ["table", "text"]) fun _ _ _ _ _ _ us hl => match us, hl with | [_, _], _ => rfl
  have C_law_is_no_word := Got.of (x := "_law_is_no_word") (ok_law_is_no_word (P := P) (w := w) (base := base) D52.F B EW C_word_index) b52 D52.F.kp (PySem.W.mg_of X G D52.a)
  have b53 := D53.F.binds (ps := ["table", "index"]) fun _ _ _ _ _ _ us hl => match us, hl with | [_, _], _ => rfl
  have C_law_is_beyond := Got.of (x := "_law_is_beyond") (ok_law_is_beyond (P := P) (w := w) (base := base) D53.F B EI C_nth_word) b53 D53.F.kp (PySem.W.mg_of X G D53.a)
  have b54 := D54.F.binds (ps := ["size", "table"]) fun _ _ _ _ _ _ us hl => match us, hl with | [_, _], _ => rfl
  have C_law_first := Got.of (x := "_law_first") (ok_law_first (P := P) (w := w) (base := base) D54.F B C_law_lead) b54 D54.F.kp (PySem.W.mg_of X G D54.a)
  have b55 := D55.F.binds (ps := ["draw", "table"]) fun _ _ _ _ _ _ us hl => match us, hl with | [_, _], _ => rfl
  have C_law_end_right := Got.of (x := "_law_end_right") (ok_law_end_right (P := P) (w := w) (base := base) D55.F B C_law_next C_law_lead C_longest C_how_many C_nth_word C_word_index C_law_is_beyond) b55 D55.F.kp (PySem.W.mg_of X G D55.a)
  have b56 := D56.F.binds (ps := ["script"]) fun _ _ _ _ _ _ us hl => match us, hl with | [_], _ => rfl
  exact ⟨b56, ok_law D56.F B C_law_next C_law_pattern C_law_table C_law_texts C_law_has C_count_words C_nth_word C_word_index C_first_word C_law_first C_law_is_no_word C_law_end_right C_law_is_beyond⟩
end
end Own
namespace Own
open PySem PySem.Spec PyProof.Rows L2
theorem all_mk {l : PySem.W.OpenLaw} {w : World} {K : PySem.W.Frag} {h : Heap} {mg : Str → Option Value} {fa CI CW : Addr} (X : K.In h) (G : h.Ns mainGlobals mg) (hfa : mg "law" = some (.ref fa))
    (z0 : PySem.W.nsIn K mainGlobals "len" = some none) (z1 : PySem.W.nsIn K mainGlobals "isinstance" = some none) (z2 : PySem.W.nsIn K mainGlobals "sum" = some none) (z3 : PySem.W.nsIn K mainGlobals "max" = some none) (z4 : PySem.W.nsIn K mainGlobals "min" = some none) (z5 : PySem.W.nsIn K mainGlobals "all" = some none) (z6 : PySem.W.nsIn K mainGlobals "any" = some none) (z7 : PySem.W.nsIn K mainGlobals "sorted" = some none) (z8 : PySem.W.nsIn K mainGlobals "list" = some none) (z9 : PySem.W.nsIn K mainGlobals "tuple" = some none) (z10 : PySem.W.nsIn K mainGlobals "int" = some none) (z11 : PySem.W.nsIn K mainGlobals "set" = some none) (z12 : PySem.W.nsIn K mainGlobals "bool" = some none) (z13 : PySem.W.nsIn K mainGlobals "str" = some none) (z14 : PySem.W.nsIn K mainGlobals "range" = some none) (z15 : PySem.W.nsIn K mainGlobals "enumerate" = some none)
    {w0 w1 w2 w3 : Tok} (y0 : PySem.W.nsIn K mainGlobals "LETTERS" = some (some (.str "abc" w0))) (y1 : PySem.W.nsIn K mainGlobals "MOST_STANDS" = some (some (.int 40 w1))) (y2 : PySem.W.nsIn K mainGlobals "MOST_LENGTH" = some (some (.int 60 w2))) (y3 : PySem.W.nsIn K mainGlobals "MOST_INDEX" = some (some (.int 9999 w3)))
    (aI : PySem.W.nsIn K mainGlobals "BadIndex" = some (some (.ref CI))) (xI : PySem.W.excIn K CI [.type "ValueError", .type "Exception", .type "BaseException", .type "object"] "ValueError.__new__" = true) (kI : PySem.W.keepIn K (.ref CI) = true) (bI : PySem.W.subIn K (.ref CI) (.type "BaseException") = some true) (tI : PySem.W.typeIn K (.ref CI) = some (.type "type")) (iI : PySem.W.isClsIn K CI = true) (sI : PySem.W.subIn K (.ref CI) (.ref CI) = some true)
    (aW : PySem.W.nsIn K mainGlobals "NoWord" = some (some (.ref CW))) (xW : PySem.W.excIn K CW [.type "ValueError", .type "Exception", .type "BaseException", .type "object"] "ValueError.__new__" = true) (kW : PySem.W.keepIn K (.ref CW) = true) (bW : PySem.W.subIn K (.ref CW) (.type "BaseException") = some true) (tW : PySem.W.typeIn K (.ref CW) = some (.type "type")) (iW : PySem.W.isClsIn K CW = true) (sW : PySem.W.subIn K (.ref CW) (.ref CW) = some true)
    {f0 : Addr} {oc0 kV0 dc0 pm0 cd0 ct0 : Value} {od0 an0 : Option Addr} {sl0 : Array (Option Value)}
      (a0 : PySem.W.nsIn K mainGlobals "is_integer" = some (some (.ref f0))) (l0 : K.lookup f0 = some ⟨oc0, od0, .func (PySem.W.fnOf "is_integer" "is_integer" (defArgs s_is_integer) (defBody s_is_integer) (defScope s_is_integer) .none kV0 dc0 pm0 an0 cd0 ct0), sl0⟩) (c0 : PySem.W.codeIn K cd0 "is_integer" = true) (k0 : PySem.W.keepIn K (.ref f0) = true)
    {f1 : Addr} {oc1 kV1 dc1 pm1 cd1 ct1 : Value} {od1 an1 : Option Addr} {sl1 : Array (Option Value)}
      (a1 : PySem.W.nsIn K mainGlobals "is_between" = some (some (.ref f1))) (l1 : K.lookup f1 = some ⟨oc1, od1, .func (PySem.W.fnOf "is_between" "is_between" (defArgs s_is_between) (defBody s_is_between) (defScope s_is_between) .none kV1 dc1 pm1 an1 cd1 ct1), sl1⟩) (c1 : PySem.W.codeIn K cd1 "is_between" = true) (k1 : PySem.W.keepIn K (.ref f1) = true)
    {f2 : Addr} {oc2 kV2 dc2 pm2 cd2 ct2 : Value} {od2 an2 : Option Addr} {sl2 : Array (Option Value)}
      (a2 : PySem.W.nsIn K mainGlobals "is_text" = some (some (.ref f2))) (l2 : K.lookup f2 = some ⟨oc2, od2, .func (PySem.W.fnOf "is_text" "is_text" (defArgs s_is_text) (defBody s_is_text) (defScope s_is_text) .none kV2 dc2 pm2 an2 cd2 ct2), sl2⟩) (c2 : PySem.W.codeIn K cd2 "is_text" = true) (k2 : PySem.W.keepIn K (.ref f2) = true)
    {f3 : Addr} {oc3 kV3 dc3 pm3 cd3 ct3 : Value} {od3 an3 : Option Addr} {sl3 : Array (Option Value)}
      (a3 : PySem.W.nsIn K mainGlobals "is_tuple_of" = some (some (.ref f3))) (l3 : K.lookup f3 = some ⟨oc3, od3, .func (PySem.W.fnOf "is_tuple_of" "is_tuple_of" (defArgs s_is_tuple_of) (defBody s_is_tuple_of) (defScope s_is_tuple_of) .none kV3 dc3 pm3 an3 cd3 ct3), sl3⟩) (c3 : PySem.W.codeIn K cd3 "is_tuple_of" = true) (k3 : PySem.W.keepIn K (.ref f3) = true)
    {f4 : Addr} {oc4 kV4 dc4 pm4 cd4 ct4 : Value} {od4 an4 : Option Addr} {sl4 : Array (Option Value)}
      (a4 : PySem.W.nsIn K mainGlobals "table_size" = some (some (.ref f4))) (l4 : K.lookup f4 = some ⟨oc4, od4, .func (PySem.W.fnOf "table_size" "table_size" (defArgs s_table_size) (defBody s_table_size) (defScope s_table_size) .none kV4 dc4 pm4 an4 cd4 ct4), sl4⟩) (c4 : PySem.W.codeIn K cd4 "table_size" = true) (k4 : PySem.W.keepIn K (.ref f4) = true)
    {f5 : Addr} {oc5 kV5 dc5 pm5 cd5 ct5 : Value} {od5 an5 : Option Addr} {sl5 : Array (Option Value)}
      (a5 : PySem.W.nsIn K mainGlobals "stand_after" = some (some (.ref f5))) (l5 : K.lookup f5 = some ⟨oc5, od5, .func (PySem.W.fnOf "stand_after" "stand_after" (defArgs s_stand_after) (defBody s_stand_after) (defScope s_stand_after) .none kV5 dc5 pm5 an5 cd5 ct5), sl5⟩) (c5 : PySem.W.codeIn K cd5 "stand_after" = true) (k5 : PySem.W.keepIn K (.ref f5) = true)
    {f6 T0 : Addr} {oc6 kV6 dc6 pm6 cd6 ct6 oT v0 : Value} {od6 an6 dT : Option Addr} {sl6 slT : Array (Option Value)} {nT : Nat}
      (a6 : PySem.W.nsIn K mainGlobals "first_texts" = some (some (.ref f6))) (l6 : K.lookup f6 = some ⟨oc6, od6, .func (PySem.W.fnOf "first_texts" "first_texts" (defArgs s_first_texts) (defBody s_first_texts) (defScope s_first_texts) (.ref T0) kV6 dc6 pm6 an6 cd6 ct6), sl6⟩) (c6 : PySem.W.codeIn K cd6 "first_texts" = true) (k6 : PySem.W.keepIn K (.ref f6) = true)
      (lT : K.lookup T0 = some ⟨oT, dT, .seq #[v0] nT, slT⟩) (vT : RelV (.int 0) v0)
    {f7 : Addr} {oc7 kV7 dc7 pm7 cd7 ct7 : Value} {od7 an7 : Option Addr} {sl7 : Array (Option Value)}
      (a7 : PySem.W.nsIn K mainGlobals "letter_numbers" = some (some (.ref f7))) (l7 : K.lookup f7 = some ⟨oc7, od7, .func (PySem.W.fnOf "letter_numbers" "letter_numbers" (defArgs s_letter_numbers) (defBody s_letter_numbers) (defScope s_letter_numbers) .none kV7 dc7 pm7 an7 cd7 ct7), sl7⟩) (c7 : PySem.W.codeIn K cd7 "letter_numbers" = true) (k7 : PySem.W.keepIn K (.ref f7) = true)
    {f8 : Addr} {oc8 kV8 dc8 pm8 cd8 ct8 : Value} {od8 an8 : Option Addr} {sl8 : Array (Option Value)}
      (a8 : PySem.W.nsIn K mainGlobals "check_text" = some (some (.ref f8))) (l8 : K.lookup f8 = some ⟨oc8, od8, .func (PySem.W.fnOf "check_text" "check_text" (defArgs s_check_text) (defBody s_check_text) (defScope s_check_text) .none kV8 dc8 pm8 an8 cd8 ct8), sl8⟩) (c8 : PySem.W.codeIn K cd8 "check_text" = true) (k8 : PySem.W.keepIn K (.ref f8) = true)
    {f9 : Addr} {oc9 kV9 dc9 pm9 cd9 ct9 : Value} {od9 an9 : Option Addr} {sl9 : Array (Option Value)}
      (a9 : PySem.W.nsIn K mainGlobals "_are_rows" = some (some (.ref f9))) (l9 : K.lookup f9 = some ⟨oc9, od9, .func (PySem.W.fnOf "_are_rows" "_are_rows" (defArgs s_are_rows) (defBody s_are_rows) (defScope s_are_rows) .none kV9 dc9 pm9 an9 cd9 ct9), sl9⟩) (c9 : PySem.W.codeIn K cd9 "_are_rows" = true) (k9 : PySem.W.keepIn K (.ref f9) = true)
    {f10 : Addr} {oc10 kV10 dc10 pm10 cd10 ct10 : Value} {od10 an10 : Option Addr} {sl10 : Array (Option Value)}
      (a10 : PySem.W.nsIn K mainGlobals "is_table" = some (some (.ref f10))) (l10 : K.lookup f10 = some ⟨oc10, od10, .func (PySem.W.fnOf "is_table" "is_table" (defArgs s_is_table) (defBody s_is_table) (defScope s_is_table) .none kV10 dc10 pm10 an10 cd10 ct10), sl10⟩) (c10 : PySem.W.codeIn K cd10 "is_table" = true) (k10 : PySem.W.keepIn K (.ref f10) = true)
    {f11 : Addr} {oc11 kV11 dc11 pm11 cd11 ct11 : Value} {od11 an11 : Option Addr} {sl11 : Array (Option Value)}
      (a11 : PySem.W.nsIn K mainGlobals "check_table" = some (some (.ref f11))) (l11 : K.lookup f11 = some ⟨oc11, od11, .func (PySem.W.fnOf "check_table" "check_table" (defArgs s_check_table) (defBody s_check_table) (defScope s_check_table) .none kV11 dc11 pm11 an11 cd11 ct11), sl11⟩) (c11 : PySem.W.codeIn K cd11 "check_table" = true) (k11 : PySem.W.keepIn K (.ref f11) = true)
    {f12 : Addr} {oc12 kV12 dc12 pm12 cd12 ct12 : Value} {od12 an12 : Option Addr} {sl12 : Array (Option Value)}
      (a12 : PySem.W.nsIn K mainGlobals "leading_to" = some (some (.ref f12))) (l12 : K.lookup f12 = some ⟨oc12, od12, .func (PySem.W.fnOf "leading_to" "leading_to" (defArgs s_leading_to) (defBody s_leading_to) (defScope s_leading_to) .none kV12 dc12 pm12 an12 cd12 ct12), sl12⟩) (c12 : PySem.W.codeIn K cd12 "leading_to" = true) (k12 : PySem.W.keepIn K (.ref f12) = true)
    {f13 : Addr} {oc13 kV13 dc13 pm13 cd13 ct13 : Value} {od13 an13 : Option Addr} {sl13 : Array (Option Value)}
      (a13 : PySem.W.nsIn K mainGlobals "_useful" = some (some (.ref f13))) (l13 : K.lookup f13 = some ⟨oc13, od13, .func (PySem.W.fnOf "_useful" "_useful" (defArgs s_useful) (defBody s_useful) (defScope s_useful) .none kV13 dc13 pm13 an13 cd13 ct13), sl13⟩) (c13 : PySem.W.codeIn K cd13 "_useful" = true) (k13 : PySem.W.keepIn K (.ref f13) = true)
    {f14 : Addr} {oc14 kV14 dc14 pm14 cd14 ct14 : Value} {od14 an14 : Option Addr} {sl14 : Array (Option Value)}
      (a14 : PySem.W.nsIn K mainGlobals "_first_level" = some (some (.ref f14))) (l14 : K.lookup f14 = some ⟨oc14, od14, .func (PySem.W.fnOf "_first_level" "_first_level" (defArgs s_first_level) (defBody s_first_level) (defScope s_first_level) .none kV14 dc14 pm14 an14 cd14 ct14), sl14⟩) (c14 : PySem.W.codeIn K cd14 "_first_level" = true) (k14 : PySem.W.keepIn K (.ref f14) = true)
    {f15 : Addr} {oc15 kV15 dc15 pm15 cd15 ct15 : Value} {od15 an15 : Option Addr} {sl15 : Array (Option Value)}
      (a15 : PySem.W.nsIn K mainGlobals "_next_level" = some (some (.ref f15))) (l15 : K.lookup f15 = some ⟨oc15, od15, .func (PySem.W.fnOf "_next_level" "_next_level" (defArgs s_next_level) (defBody s_next_level) (defScope s_next_level) .none kV15 dc15 pm15 an15 cd15 ct15), sl15⟩) (c15 : PySem.W.codeIn K cd15 "_next_level" = true) (k15 : PySem.W.keepIn K (.ref f15) = true)
    {f16 : Addr} {oc16 kV16 dc16 pm16 cd16 ct16 : Value} {od16 an16 : Option Addr} {sl16 : Array (Option Value)}
      (a16 : PySem.W.nsIn K mainGlobals "_words_in" = some (some (.ref f16))) (l16 : K.lookup f16 = some ⟨oc16, od16, .func (PySem.W.fnOf "_words_in" "_words_in" (defArgs s_words_in) (defBody s_words_in) (defScope s_words_in) .none kV16 dc16 pm16 an16 cd16 ct16), sl16⟩) (c16 : PySem.W.codeIn K cd16 "_words_in" = true) (k16 : PySem.W.keepIn K (.ref f16) = true)
    {f17 : Addr} {oc17 kV17 dc17 pm17 cd17 ct17 : Value} {od17 an17 : Option Addr} {sl17 : Array (Option Value)}
      (a17 : PySem.W.nsIn K mainGlobals "count_words" = some (some (.ref f17))) (l17 : K.lookup f17 = some ⟨oc17, od17, .func (PySem.W.fnOf "count_words" "count_words" (defArgs s_count_words) (defBody s_count_words) (defScope s_count_words) .none kV17 dc17 pm17 an17 cd17 ct17), sl17⟩) (c17 : PySem.W.codeIn K cd17 "count_words" = true) (k17 : PySem.W.keepIn K (.ref f17) = true)
    {f18 : Addr} {oc18 kV18 dc18 pm18 cd18 ct18 : Value} {od18 an18 : Option Addr} {sl18 : Array (Option Value)}
      (a18 : PySem.W.nsIn K mainGlobals "_counts" = some (some (.ref f18))) (l18 : K.lookup f18 = some ⟨oc18, od18, .func (PySem.W.fnOf "_counts" "_counts" (defArgs s_counts) (defBody s_counts) (defScope s_counts) .none kV18 dc18 pm18 an18 cd18 ct18), sl18⟩) (c18 : PySem.W.codeIn K cd18 "_counts" = true) (k18 : PySem.W.keepIn K (.ref f18) = true)
    {f19 : Addr} {oc19 kV19 dc19 pm19 cd19 ct19 : Value} {od19 an19 : Option Addr} {sl19 : Array (Option Value)}
      (a19 : PySem.W.nsIn K mainGlobals "how_many" = some (some (.ref f19))) (l19 : K.lookup f19 = some ⟨oc19, od19, .func (PySem.W.fnOf "how_many" "how_many" (defArgs s_how_many) (defBody s_how_many) (defScope s_how_many) .none kV19 dc19 pm19 an19 cd19 ct19), sl19⟩) (c19 : PySem.W.codeIn K cd19 "how_many" = true) (k19 : PySem.W.keepIn K (.ref f19) = true)
    {f20 : Addr} {oc20 kV20 dc20 pm20 cd20 ct20 : Value} {od20 an20 : Option Addr} {sl20 : Array (Option Value)}
      (a20 : PySem.W.nsIn K mainGlobals "longest" = some (some (.ref f20))) (l20 : K.lookup f20 = some ⟨oc20, od20, .func (PySem.W.fnOf "longest" "longest" (defArgs s_longest) (defBody s_longest) (defScope s_longest) .none kV20 dc20 pm20 an20 cd20 ct20), sl20⟩) (c20 : PySem.W.codeIn K cd20 "longest" = true) (k20 : PySem.W.keepIn K (.ref f20) = true)
    {f21 : Addr} {oc21 kV21 dc21 pm21 cd21 ct21 : Value} {od21 an21 : Option Addr} {sl21 : Array (Option Value)}
      (a21 : PySem.W.nsIn K mainGlobals "_levels_to" = some (some (.ref f21))) (l21 : K.lookup f21 = some ⟨oc21, od21, .func (PySem.W.fnOf "_levels_to" "_levels_to" (defArgs s_levels_to) (defBody s_levels_to) (defScope s_levels_to) .none kV21 dc21 pm21 an21 cd21 ct21), sl21⟩) (c21 : PySem.W.codeIn K cd21 "_levels_to" = true) (k21 : PySem.W.keepIn K (.ref f21) = true)
    {f22 : Addr} {oc22 kV22 dc22 pm22 cd22 ct22 : Value} {od22 an22 : Option Addr} {sl22 : Array (Option Value)}
      (a22 : PySem.W.nsIn K mainGlobals "_counts_left" = some (some (.ref f22))) (l22 : K.lookup f22 = some ⟨oc22, od22, .func (PySem.W.fnOf "_counts_left" "_counts_left" (defArgs s_counts_left) (defBody s_counts_left) (defScope s_counts_left) .none kV22 dc22 pm22 an22 cd22 ct22), sl22⟩) (c22 : PySem.W.codeIn K cd22 "_counts_left" = true) (k22 : PySem.W.keepIn K (.ref f22) = true)
    {f23 : Addr} {oc23 kV23 dc23 pm23 cd23 ct23 : Value} {od23 an23 : Option Addr} {sl23 : Array (Option Value)}
      (a23 : PySem.W.nsIn K mainGlobals "nth_word" = some (some (.ref f23))) (l23 : K.lookup f23 = some ⟨oc23, od23, .func (PySem.W.fnOf "nth_word" "nth_word" (defArgs s_nth_word) (defBody s_nth_word) (defScope s_nth_word) .none kV23 dc23 pm23 an23 cd23 ct23), sl23⟩) (c23 : PySem.W.codeIn K cd23 "nth_word" = true) (k23 : PySem.W.keepIn K (.ref f23) = true)
    {f24 : Addr} {oc24 kV24 dc24 pm24 cd24 ct24 : Value} {od24 an24 : Option Addr} {sl24 : Array (Option Value)}
      (a24 : PySem.W.nsIn K mainGlobals "word_index" = some (some (.ref f24))) (l24 : K.lookup f24 = some ⟨oc24, od24, .func (PySem.W.fnOf "word_index" "word_index" (defArgs s_word_index) (defBody s_word_index) (defScope s_word_index) .none kV24 dc24 pm24 an24 cd24 ct24), sl24⟩) (c24 : PySem.W.codeIn K cd24 "word_index" = true) (k24 : PySem.W.keepIn K (.ref f24) = true)
    {f25 : Addr} {oc25 kV25 dc25 pm25 cd25 ct25 : Value} {od25 an25 : Option Addr} {sl25 : Array (Option Value)}
      (a25 : PySem.W.nsIn K mainGlobals "first_word" = some (some (.ref f25))) (l25 : K.lookup f25 = some ⟨oc25, od25, .func (PySem.W.fnOf "first_word" "first_word" (defArgs s_first_word) (defBody s_first_word) (defScope s_first_word) .none kV25 dc25 pm25 an25 cd25 ct25), sl25⟩) (c25 : PySem.W.codeIn K cd25 "first_word" = true) (k25 : PySem.W.keepIn K (.ref f25) = true)
    {f26 : Addr} {oc26 kV26 dc26 pm26 cd26 ct26 : Value} {od26 an26 : Option Addr} {sl26 : Array (Option Value)}
      (a26 : PySem.W.nsIn K mainGlobals "_law_cell_at" = some (some (.ref f26))) (l26 : K.lookup f26 = some ⟨oc26, od26, .func (PySem.W.fnOf "_law_cell_at" "_law_cell_at" (defArgs s_law_cell_at) (defBody s_law_cell_at) (defScope s_law_cell_at) .none kV26 dc26 pm26 an26 cd26 ct26), sl26⟩) (c26 : PySem.W.codeIn K cd26 "_law_cell_at" = true) (k26 : PySem.W.keepIn K (.ref f26) = true)
    {f27 : Addr} {oc27 kV27 dc27 pm27 cd27 ct27 : Value} {od27 an27 : Option Addr} {sl27 : Array (Option Value)}
      (a27 : PySem.W.nsIn K mainGlobals "_law_draw" = some (some (.ref f27))) (l27 : K.lookup f27 = some ⟨oc27, od27, .func (PySem.W.fnOf "_law_draw" "_law_draw" (defArgs s_law_draw) (defBody s_law_draw) (defScope s_law_draw) .none kV27 dc27 pm27 an27 cd27 ct27), sl27⟩) (c27 : PySem.W.codeIn K cd27 "_law_draw" = true) (k27 : PySem.W.keepIn K (.ref f27) = true)
    {f28 : Addr} {oc28 kV28 dc28 pm28 cd28 ct28 : Value} {od28 an28 : Option Addr} {sl28 : Array (Option Value)}
      (a28 : PySem.W.nsIn K mainGlobals "_law_number" = some (some (.ref f28))) (l28 : K.lookup f28 = some ⟨oc28, od28, .func (PySem.W.fnOf "_law_number" "_law_number" (defArgs s_law_number) (defBody s_law_number) (defScope s_law_number) .none kV28 dc28 pm28 an28 cd28 ct28), sl28⟩) (c28 : PySem.W.codeIn K cd28 "_law_number" = true) (k28 : PySem.W.keepIn K (.ref f28) = true)
    {f29 : Addr} {oc29 kV29 dc29 pm29 cd29 ct29 : Value} {od29 an29 : Option Addr} {sl29 : Array (Option Value)}
      (a29 : PySem.W.nsIn K mainGlobals "_law_next" = some (some (.ref f29))) (l29 : K.lookup f29 = some ⟨oc29, od29, .func (PySem.W.fnOf "_law_next" "_law_next" (defArgs s_law_next) (defBody s_law_next) (defScope s_law_next) .none kV29 dc29 pm29 an29 cd29 ct29), sl29⟩) (c29 : PySem.W.codeIn K cd29 "_law_next" = true) (k29 : PySem.W.keepIn K (.ref f29) = true)
    {f30 : Addr} {oc30 kV30 dc30 pm30 cd30 ct30 : Value} {od30 an30 : Option Addr} {sl30 : Array (Option Value)}
      (a30 : PySem.W.nsIn K mainGlobals "_law_pick" = some (some (.ref f30))) (l30 : K.lookup f30 = some ⟨oc30, od30, .func (PySem.W.fnOf "_law_pick" "_law_pick" (defArgs s_law_pick) (defBody s_law_pick) (defScope s_law_pick) .none kV30 dc30 pm30 an30 cd30 ct30), sl30⟩) (c30 : PySem.W.codeIn K cd30 "_law_pick" = true) (k30 : PySem.W.keepIn K (.ref f30) = true)
    {f31 : Addr} {oc31 kV31 dc31 pm31 cd31 ct31 : Value} {od31 an31 : Option Addr} {sl31 : Array (Option Value)}
      (a31 : PySem.W.nsIn K mainGlobals "_law_letters" = some (some (.ref f31))) (l31 : K.lookup f31 = some ⟨oc31, od31, .func (PySem.W.fnOf "_law_letters" "_law_letters" (defArgs s_law_letters) (defBody s_law_letters) (defScope s_law_letters) .none kV31 dc31 pm31 an31 cd31 ct31), sl31⟩) (c31 : PySem.W.codeIn K cd31 "_law_letters" = true) (k31 : PySem.W.keepIn K (.ref f31) = true)
    {f32 : Addr} {oc32 kV32 dc32 pm32 cd32 ct32 : Value} {od32 an32 : Option Addr} {sl32 : Array (Option Value)}
      (a32 : PySem.W.nsIn K mainGlobals "_law_many" = some (some (.ref f32))) (l32 : K.lookup f32 = some ⟨oc32, od32, .func (PySem.W.fnOf "_law_many" "_law_many" (defArgs s_law_many) (defBody s_law_many) (defScope s_law_many) .none kV32 dc32 pm32 an32 cd32 ct32), sl32⟩) (c32 : PySem.W.codeIn K cd32 "_law_many" = true) (k32 : PySem.W.keepIn K (.ref f32) = true)
    {f33 : Addr} {oc33 kV33 dc33 pm33 cd33 ct33 : Value} {od33 an33 : Option Addr} {sl33 : Array (Option Value)}
      (a33 : PySem.W.nsIn K mainGlobals "_law_grown" = some (some (.ref f33))) (l33 : K.lookup f33 = some ⟨oc33, od33, .func (PySem.W.fnOf "_law_grown" "_law_grown" (defArgs s_law_grown) (defBody s_law_grown) (defScope s_law_grown) .none kV33 dc33 pm33 an33 cd33 ct33), sl33⟩) (c33 : PySem.W.codeIn K cd33 "_law_grown" = true) (k33 : PySem.W.keepIn K (.ref f33) = true)
    {f34 : Addr} {oc34 kV34 dc34 pm34 cd34 ct34 : Value} {od34 an34 : Option Addr} {sl34 : Array (Option Value)}
      (a34 : PySem.W.nsIn K mainGlobals "_law_inner" = some (some (.ref f34))) (l34 : K.lookup f34 = some ⟨oc34, od34, .func (PySem.W.fnOf "_law_inner" "_law_inner" (defArgs s_law_inner) (defBody s_law_inner) (defScope s_law_inner) .none kV34 dc34 pm34 an34 cd34 ct34), sl34⟩) (c34 : PySem.W.codeIn K cd34 "_law_inner" = true) (k34 : PySem.W.keepIn K (.ref f34) = true)
    {f35 : Addr} {oc35 kV35 dc35 pm35 cd35 ct35 : Value} {od35 an35 : Option Addr} {sl35 : Array (Option Value)}
      (a35 : PySem.W.nsIn K mainGlobals "_law_parts" = some (some (.ref f35))) (l35 : K.lookup f35 = some ⟨oc35, od35, .func (PySem.W.fnOf "_law_parts" "_law_parts" (defArgs s_law_parts) (defBody s_law_parts) (defScope s_law_parts) .none kV35 dc35 pm35 an35 cd35 ct35), sl35⟩) (c35 : PySem.W.codeIn K cd35 "_law_parts" = true) (k35 : PySem.W.keepIn K (.ref f35) = true)
    {f36 : Addr} {oc36 kV36 dc36 pm36 cd36 ct36 : Value} {od36 an36 : Option Addr} {sl36 : Array (Option Value)}
      (a36 : PySem.W.nsIn K mainGlobals "_law_weight" = some (some (.ref f36))) (l36 : K.lookup f36 = some ⟨oc36, od36, .func (PySem.W.fnOf "_law_weight" "_law_weight" (defArgs s_law_weight) (defBody s_law_weight) (defScope s_law_weight) .none kV36 dc36 pm36 an36 cd36 ct36), sl36⟩) (c36 : PySem.W.codeIn K cd36 "_law_weight" = true) (k36 : PySem.W.keepIn K (.ref f36) = true)
    {f37 : Addr} {oc37 kV37 dc37 pm37 cd37 ct37 : Value} {od37 an37 : Option Addr} {sl37 : Array (Option Value)}
      (a37 : PySem.W.nsIn K mainGlobals "_law_pattern" = some (some (.ref f37))) (l37 : K.lookup f37 = some ⟨oc37, od37, .func (PySem.W.fnOf "_law_pattern" "_law_pattern" (defArgs s_law_pattern) (defBody s_law_pattern) (defScope s_law_pattern) .none kV37 dc37 pm37 an37 cd37 ct37), sl37⟩) (c37 : PySem.W.codeIn K cd37 "_law_pattern" = true) (k37 : PySem.W.keepIn K (.ref f37) = true)
    {f38 : Addr} {oc38 kV38 dc38 pm38 cd38 ct38 : Value} {od38 an38 : Option Addr} {sl38 : Array (Option Value)}
      (a38 : PySem.W.nsIn K mainGlobals "_law_ends_all" = some (some (.ref f38))) (l38 : K.lookup f38 = some ⟨oc38, od38, .func (PySem.W.fnOf "_law_ends_all" "_law_ends_all" (defArgs s_law_ends_all) (defBody s_law_ends_all) (defScope s_law_ends_all) .none kV38 dc38 pm38 an38 cd38 ct38), sl38⟩) (c38 : PySem.W.codeIn K cd38 "_law_ends_all" = true) (k38 : PySem.W.keepIn K (.ref f38) = true)
    {f39 : Addr} {oc39 kV39 dc39 pm39 cd39 ct39 : Value} {od39 an39 : Option Addr} {sl39 : Array (Option Value)}
      (a39 : PySem.W.nsIn K mainGlobals "_law_ends_again" = some (some (.ref f39))) (l39 : K.lookup f39 = some ⟨oc39, od39, .func (PySem.W.fnOf "_law_ends_again" "_law_ends_again" (defArgs s_law_ends_again) (defBody s_law_ends_again) (defScope s_law_ends_again) .none kV39 dc39 pm39 an39 cd39 ct39), sl39⟩) (c39 : PySem.W.codeIn K cd39 "_law_ends_again" = true) (k39 : PySem.W.keepIn K (.ref f39) = true)
    {f40 : Addr} {oc40 kV40 dc40 pm40 cd40 ct40 : Value} {od40 an40 : Option Addr} {sl40 : Array (Option Value)}
      (a40 : PySem.W.nsIn K mainGlobals "_law_ends" = some (some (.ref f40))) (l40 : K.lookup f40 = some ⟨oc40, od40, .func (PySem.W.fnOf "_law_ends" "_law_ends" (defArgs s_law_ends) (defBody s_law_ends) (defScope s_law_ends) .none kV40 dc40 pm40 an40 cd40 ct40), sl40⟩) (c40 : PySem.W.codeIn K cd40 "_law_ends" = true) (k40 : PySem.W.keepIn K (.ref f40) = true)
    {f41 : Addr} {oc41 kV41 dc41 pm41 cd41 ct41 : Value} {od41 an41 : Option Addr} {sl41 : Array (Option Value)}
      (a41 : PySem.W.nsIn K mainGlobals "_law_has" = some (some (.ref f41))) (l41 : K.lookup f41 = some ⟨oc41, od41, .func (PySem.W.fnOf "_law_has" "_law_has" (defArgs s_law_has) (defBody s_law_has) (defScope s_law_has) .none kV41 dc41 pm41 an41 cd41 ct41), sl41⟩) (c41 : PySem.W.codeIn K cd41 "_law_has" = true) (k41 : PySem.W.keepIn K (.ref f41) = true)
    {f42 : Addr} {oc42 kV42 dc42 pm42 cd42 ct42 : Value} {od42 an42 : Option Addr} {sl42 : Array (Option Value)}
      (a42 : PySem.W.nsIn K mainGlobals "_law_node" = some (some (.ref f42))) (l42 : K.lookup f42 = some ⟨oc42, od42, .func (PySem.W.fnOf "_law_node" "_law_node" (defArgs s_law_node) (defBody s_law_node) (defScope s_law_node) .none kV42 dc42 pm42 an42 cd42 ct42), sl42⟩) (c42 : PySem.W.codeIn K cd42 "_law_node" = true) (k42 : PySem.W.keepIn K (.ref f42) = true)
    {f43 : Addr} {oc43 kV43 dc43 pm43 cd43 ct43 : Value} {od43 an43 : Option Addr} {sl43 : Array (Option Value)}
      (a43 : PySem.W.nsIn K mainGlobals "_law_wire_again" = some (some (.ref f43))) (l43 : K.lookup f43 = some ⟨oc43, od43, .func (PySem.W.fnOf "_law_wire_again" "_law_wire_again" (defArgs s_law_wire_again) (defBody s_law_wire_again) (defScope s_law_wire_again) .none kV43 dc43 pm43 an43 cd43 ct43), sl43⟩) (c43 : PySem.W.codeIn K cd43 "_law_wire_again" = true) (k43 : PySem.W.keepIn K (.ref f43) = true)
    {f44 : Addr} {oc44 kV44 dc44 pm44 cd44 ct44 : Value} {od44 an44 : Option Addr} {sl44 : Array (Option Value)}
      (a44 : PySem.W.nsIn K mainGlobals "_law_wire" = some (some (.ref f44))) (l44 : K.lookup f44 = some ⟨oc44, od44, .func (PySem.W.fnOf "_law_wire" "_law_wire" (defArgs s_law_wire) (defBody s_law_wire) (defScope s_law_wire) .none kV44 dc44 pm44 an44 cd44 ct44), sl44⟩) (c44 : PySem.W.codeIn K cd44 "_law_wire" = true) (k44 : PySem.W.keepIn K (.ref f44) = true)
    {f45 : Addr} {oc45 kV45 dc45 pm45 cd45 ct45 : Value} {od45 an45 : Option Addr} {sl45 : Array (Option Value)}
      (a45 : PySem.W.nsIn K mainGlobals "_law_still" = some (some (.ref f45))) (l45 : K.lookup f45 = some ⟨oc45, od45, .func (PySem.W.fnOf "_law_still" "_law_still" (defArgs s_law_still) (defBody s_law_still) (defScope s_law_still) .none kV45 dc45 pm45 an45 cd45 ct45), sl45⟩) (c45 : PySem.W.codeIn K cd45 "_law_still" = true) (k45 : PySem.W.keepIn K (.ref f45) = true)
    {f46 : Addr} {oc46 kV46 dc46 pm46 cd46 ct46 : Value} {od46 an46 : Option Addr} {sl46 : Array (Option Value)}
      (a46 : PySem.W.nsIn K mainGlobals "_law_step" = some (some (.ref f46))) (l46 : K.lookup f46 = some ⟨oc46, od46, .func (PySem.W.fnOf "_law_step" "_law_step" (defArgs s_law_step) (defBody s_law_step) (defScope s_law_step) .none kV46 dc46 pm46 an46 cd46 ct46), sl46⟩) (c46 : PySem.W.codeIn K cd46 "_law_step" = true) (k46 : PySem.W.keepIn K (.ref f46) = true)
    {f47 : Addr} {oc47 kV47 dc47 pm47 cd47 ct47 : Value} {od47 an47 : Option Addr} {sl47 : Array (Option Value)}
      (a47 : PySem.W.nsIn K mainGlobals "_law_classes" = some (some (.ref f47))) (l47 : K.lookup f47 = some ⟨oc47, od47, .func (PySem.W.fnOf "_law_classes" "_law_classes" (defArgs s_law_classes) (defBody s_law_classes) (defScope s_law_classes) .none kV47 dc47 pm47 an47 cd47 ct47), sl47⟩) (c47 : PySem.W.codeIn K cd47 "_law_classes" = true) (k47 : PySem.W.keepIn K (.ref f47) = true)
    {f48 : Addr} {oc48 kV48 dc48 pm48 cd48 ct48 : Value} {od48 an48 : Option Addr} {sl48 : Array (Option Value)}
      (a48 : PySem.W.nsIn K mainGlobals "_law_least" = some (some (.ref f48))) (l48 : K.lookup f48 = some ⟨oc48, od48, .func (PySem.W.fnOf "_law_least" "_law_least" (defArgs s_law_least) (defBody s_law_least) (defScope s_law_least) .none kV48 dc48 pm48 an48 cd48 ct48), sl48⟩) (c48 : PySem.W.codeIn K cd48 "_law_least" = true) (k48 : PySem.W.keepIn K (.ref f48) = true)
    {f49 : Addr} {oc49 kV49 dc49 pm49 cd49 ct49 : Value} {od49 an49 : Option Addr} {sl49 : Array (Option Value)}
      (a49 : PySem.W.nsIn K mainGlobals "_law_table" = some (some (.ref f49))) (l49 : K.lookup f49 = some ⟨oc49, od49, .func (PySem.W.fnOf "_law_table" "_law_table" (defArgs s_law_table) (defBody s_law_table) (defScope s_law_table) .none kV49 dc49 pm49 an49 cd49 ct49), sl49⟩) (c49 : PySem.W.codeIn K cd49 "_law_table" = true) (k49 : PySem.W.keepIn K (.ref f49) = true)
    {f50 : Addr} {oc50 kV50 dc50 pm50 cd50 ct50 : Value} {od50 an50 : Option Addr} {sl50 : Array (Option Value)}
      (a50 : PySem.W.nsIn K mainGlobals "_law_lead" = some (some (.ref f50))) (l50 : K.lookup f50 = some ⟨oc50, od50, .func (PySem.W.fnOf "_law_lead" "_law_lead" (defArgs s_law_lead) (defBody s_law_lead) (defScope s_law_lead) .none kV50 dc50 pm50 an50 cd50 ct50), sl50⟩) (c50 : PySem.W.codeIn K cd50 "_law_lead" = true) (k50 : PySem.W.keepIn K (.ref f50) = true)
    {f51 : Addr} {oc51 kV51 dc51 pm51 cd51 ct51 : Value} {od51 an51 : Option Addr} {sl51 : Array (Option Value)}
      (a51 : PySem.W.nsIn K mainGlobals "_law_texts" = some (some (.ref f51))) (l51 : K.lookup f51 = some ⟨oc51, od51, .func (PySem.W.fnOf "_law_texts" "_law_texts" (defArgs s_law_texts) (defBody s_law_texts) (defScope s_law_texts) .none kV51 dc51 pm51 an51 cd51 ct51), sl51⟩) (c51 : PySem.W.codeIn K cd51 "_law_texts" = true) (k51 : PySem.W.keepIn K (.ref f51) = true)
    {f52 : Addr} {oc52 kV52 dc52 pm52 cd52 ct52 : Value} {od52 an52 : Option Addr} {sl52 : Array (Option Value)}
      (a52 : PySem.W.nsIn K mainGlobals "_law_is_no_word" = some (some (.ref f52))) (l52 : K.lookup f52 = some ⟨oc52, od52, .func (PySem.W.fnOf "_law_is_no_word" "_law_is_no_word" (defArgs s_law_is_no_word) (defBody s_law_is_no_word) (defScope s_law_is_no_word) .none kV52 dc52 pm52 an52 cd52 ct52), sl52⟩) (c52 : PySem.W.codeIn K cd52 "_law_is_no_word" = true) (k52 : PySem.W.keepIn K (.ref f52) = true)
    {f53 : Addr} {oc53 kV53 dc53 pm53 cd53 ct53 : Value} {od53 an53 : Option Addr} {sl53 : Array (Option Value)}
      (a53 : PySem.W.nsIn K mainGlobals "_law_is_beyond" = some (some (.ref f53))) (l53 : K.lookup f53 = some ⟨oc53, od53, .func (PySem.W.fnOf "_law_is_beyond" "_law_is_beyond" (defArgs s_law_is_beyond) (defBody s_law_is_beyond) (defScope s_law_is_beyond) .none kV53 dc53 pm53 an53 cd53 ct53), sl53⟩) (c53 : PySem.W.codeIn K cd53 "_law_is_beyond" = true) (k53 : PySem.W.keepIn K (.ref f53) = true)
    {f54 : Addr} {oc54 kV54 dc54 pm54 cd54 ct54 : Value} {od54 an54 : Option Addr} {sl54 : Array (Option Value)}
      (a54 : PySem.W.nsIn K mainGlobals "_law_first" = some (some (.ref f54))) (l54 : K.lookup f54 = some ⟨oc54, od54, .func (PySem.W.fnOf "_law_first" "_law_first" (defArgs s_law_first) (defBody s_law_first) (defScope s_law_first) .none kV54 dc54 pm54 an54 cd54 ct54), sl54⟩) (c54 : PySem.W.codeIn K cd54 "_law_first" = true) (k54 : PySem.W.keepIn K (.ref f54) = true)
    {f55 : Addr} {oc55 kV55 dc55 pm55 cd55 ct55 : Value} {od55 an55 : Option Addr} {sl55 : Array (Option Value)}
      (a55 : PySem.W.nsIn K mainGlobals "_law_end_right" = some (some (.ref f55))) (l55 : K.lookup f55 = some ⟨oc55, od55, .func (PySem.W.fnOf "_law_end_right" "_law_end_right" (defArgs s_law_end_right) (defBody s_law_end_right) (defScope s_law_end_right) .none kV55 dc55 pm55 an55 cd55 ct55), sl55⟩) (c55 : PySem.W.codeIn K cd55 "_law_end_right" = true) (k55 : PySem.W.keepIn K (.ref f55) = true)
    {f56 : Addr} {oc56 kV56 dc56 pm56 cd56 ct56 : Value} {od56 an56 : Option Addr} {sl56 : Array (Option Value)}
      (a56 : PySem.W.nsIn K mainGlobals "law" = some (some (.ref f56))) (l56 : K.lookup f56 = some ⟨oc56, od56, .func (PySem.W.fnOf "law" "law" (defArgs s_law) (defBody s_law) (defScope s_law) .none kV56 dc56 pm56 an56 cd56 ct56), sl56⟩) (c56 : PySem.W.codeIn K cd56 "law" = true) (k56 : PySem.W.keepIn K (.ref f56) = true)
    : ∃ fd : FuncData, (∀ (s : Shared) (v : Value), BindsTo s fd ⟨[v], []⟩ [("script", v)]) ∧ ∀ base : Heap, K.In base → base.Ns mainGlobals mg → FnOk l.prog w K mg base CX0 15 fa fd ["script"] (sp_law K) := by
  have e := hfa.symm.trans (PySem.W.mg_of X G a56)
  cases e
  have B : Bt mg := bt_mk X G z0 z1 z2 z3 z4 z5 z6 z7 z8 z9 z10 z11 z12 z13 z14 z15 ⟨_, y0⟩ ⟨_, y1⟩ ⟨_, y2⟩ ⟨_, y3⟩
  refine ⟨_, fun s v => .of_eq rfl, fun base _ _ => (defs_ok (P := l.prog) (w := w) (base := base) X G B (exc_mk X G aI xI kI bI tI iI sI) (exc_mk X G aW xW kW bW tW iW sW)
    (DefK.of a0 l0 c0 k0)
    (DefK.of a1 l1 c1 k1)
    (DefK.of a2 l2 c2 k2)
    (DefK.of a3 l3 c3 k3)
    (DefK.of a4 l4 c4 k4)
    (DefK.of a5 l5 c5 k5)
    a6 l6 c6 k6 lT vT
    (DefK.of a7 l7 c7 k7)
    (DefK.of a8 l8 c8 k8)
    (DefK.of a9 l9 c9 k9)
    (DefK.of a10 l10 c10 k10)
    (DefK.of a11 l11 c11 k11)
    (DefK.of a12 l12 c12 k12)
    (DefK.of a13 l13 c13 k13)
    (DefK.of a14 l14 c14 k14)
    (DefK.of a15 l15 c15 k15)
    (DefK.of a16 l16 c16 k16)
    (DefK.of a17 l17 c17 k17)
    (DefK.of a18 l18 c18 k18)
    (DefK.of a19 l19 c19 k19)
    (DefK.of a20 l20 c20 k20)
    (DefK.of a21 l21 c21 k21)
    (DefK.of a22 l22 c22 k22)
    (DefK.of a23 l23 c23 k23)
    (DefK.of a24 l24 c24 k24)
    (DefK.of a25 l25 c25 k25)
    (DefK.of a26 l26 c26 k26)
    (DefK.of a27 l27 c27 k27)
    (DefK.of a28 l28 c28 k28)
    (DefK.of a29 l29 c29 k29)
    (DefK.of a30 l30 c30 k30)
    (DefK.of a31 l31 c31 k31)
    (DefK.of a32 l32 c32 k32)
    (DefK.of a33 l33 c33 k33)
    (DefK.of a34 l34 c34 k34)
    (DefK.of a35 l35 c35 k35)
    (DefK.of a36 l36 c36 k36)
    (DefK.of a37 l37 c37 k37)
    (DefK.of a38 l38 c38 k38)
    (DefK.of a39 l39 c39 k39)
    (DefK.of a40 l40 c40 k40)
    (DefK.of a41 l41 c41 k41)
    (DefK.of a42 l42 c42 k42)
    (DefK.of a43 l43 c43 k43)
    (DefK.of a44 l44 c44 k44)
    (DefK.of a45 l45 c45 k45)
    (DefK.of a46 l46 c46 k46)
    (DefK.of a47 l47 c47 k47)
    (DefK.of a48 l48 c48 k48)
    (DefK.of a49 l49 c49 k49)
    (DefK.of a50 l50 c50 k50)
    (DefK.of a51 l51 c51 k51)
    (DefK.of a52 l52 c52 k52)
    (DefK.of a53 l53 c53 k53)
    (DefK.of a54 l54 c54 k54)
    (DefK.of a55 l55 c55 k55)
    (DefK.of a56 l56 c56 k56)
    ).2⟩
theorem walk {l : PySem.W.OpenLaw} {q : Program} {loose : List Str} {XP : (Str → Option Value) → Heap → Prop} {YP : World → Heap → Prop} {d : DefRec} {K : Params → PySem.W.Frag} (hn : l.most = some 63) (hdf : d.params.defaults = [])
    (hY : ∀ (w : World) (h : Heap), YP w h → (K w.params).In h)
    (F : ∀ (w : World) (mg : Str → Option Value) (fa : Addr) (h : Heap), (K w.params).In h → h.Ns mainGlobals mg → mg d.name = some (.ref fa) →
      ∃ fd : FuncData, (∀ (s : Shared) (u : Value), BindsTo s fd ⟨[u], []⟩ [("script", u)]) ∧ ∀ base : Heap, (K w.params).In base → base.Ns mainGlobals mg → FnOk l.prog w (K w.params) mg base CX0 15 fa fd ["script"] (sp_law (K w.params))) :
    PySem.W.WalkO q loose XP YP l.row.toRowW d [] (fun f vs => PySem.call f vs) :=
  L2.walk_of (n := 63) (k := 15) (x := "script") (CX := fun _ => CX0) (sp := fun w => sp_law (K w.params)) hn (by decide) hdf ⟨rfl, by decide, by decide⟩ hY F (fun _ _ a ns _ _ hS => ⟨a, ns, rfl, hS, fun _ => rfl⟩) fun _ _ _ _ _ z => z
end Own
open PySem PySem.W PyProof.Rows
set_option maxRecDepth 100000 in
set_option maxHeartbeats 0 in
theorem PySem.Challenge.cw_patternways_k03_whole_words_holds : PySem.Challenge.rw_patternways_k03_whole_words.Holds := by
  w_on; o_law; k_head; (case hw => w_witness2)
  k_fill
  refine Own.walk (l := PySem.Challenge.rw_patternways_k03_whole_words) rfl rfl (fun w h Y => PySem.W.kIn_of Y) ?F
  case F =>
    intro w mg fa h KX G hmg
    refine' Own.all_mk KX G hmg ?z0 ?z1 ?z2 ?z3 ?z4 ?z5 ?z6 ?z7 ?z8 ?z9 ?z10 ?z11 ?z12 ?z13 ?z14 ?z15 ?y0 ?y1 ?y2 ?y3 ?aI ?xI ?kI ?bI ?tI ?iI ?sI ?aW ?xW ?kW ?bW ?tW ?iW ?sW ?a0 ?l0 ?c0 ?k0 ?a1 ?l1 ?c1 ?k1 ?a2 ?l2 ?c2 ?k2 ?a3 ?l3 ?c3 ?k3 ?a4 ?l4 ?c4 ?k4 ?a5 ?l5 ?c5 ?k5 ?a6 ?l6 ?c6 ?k6 ?lT ?vT ?a7 ?l7 ?c7 ?k7 ?a8 ?l8 ?c8 ?k8 ?a9 ?l9 ?c9 ?k9 ?a10 ?l10 ?c10 ?k10 ?a11 ?l11 ?c11 ?k11 ?a12 ?l12 ?c12 ?k12 ?a13 ?l13 ?c13 ?k13 ?a14 ?l14 ?c14 ?k14 ?a15 ?l15 ?c15 ?k15 ?a16 ?l16 ?c16 ?k16 ?a17 ?l17 ?c17 ?k17 ?a18 ?l18 ?c18 ?k18 ?a19 ?l19 ?c19 ?k19 ?a20 ?l20 ?c20 ?k20 ?a21 ?l21 ?c21 ?k21 ?a22 ?l22 ?c22 ?k22 ?a23 ?l23 ?c23 ?k23 ?a24 ?l24 ?c24 ?k24 ?a25 ?l25 ?c25 ?k25 ?a26 ?l26 ?c26 ?k26 ?a27 ?l27 ?c27 ?k27 ?a28 ?l28 ?c28 ?k28 ?a29 ?l29 ?c29 ?k29 ?a30 ?l30 ?c30 ?k30 ?a31 ?l31 ?c31 ?k31 ?a32 ?l32 ?c32 ?k32 ?a33 ?l33 ?c33 ?k33 ?a34 ?l34 ?c34 ?k34 ?a35 ?l35 ?c35 ?k35 ?a36 ?l36 ?c36 ?k36 ?a37 ?l37 ?c37 ?k37 ?a38 ?l38 ?c38 ?k38 ?a39 ?l39 ?c39 ?k39 ?a40 ?l40 ?c40 ?k40 ?a41 ?l41 ?c41 ?k41 ?a42 ?l42 ?c42 ?k42 ?a43 ?l43 ?c43 ?k43 ?a44 ?l44 ?c44 ?k44 ?a45 ?l45 ?c45 ?k45 ?a46 ?l46 ?c46 ?k46 ?a47 ?l47 ?c47 ?k47 ?a48 ?l48 ?c48 ?k48 ?a49 ?l49 ?c49 ?k49 ?a50 ?l50 ?c50 ?k50 ?a51 ?l51 ?c51 ?k51 ?a52 ?l52 ?c52 ?k52 ?a53 ?l53 ?c53 ?k53 ?a54 ?l54 ?c54 ?k54 ?a55 ?l55 ?c55 ?k55 ?a56 ?l56 ?c56 ?k56
    (case z0 => k_is)
    (case z1 => k_is)
    (case z2 => k_is)
    (case z3 => k_is)
    (case z4 => k_is)
    (case z5 => k_is)
    (case z6 => k_is)
    (case z7 => k_is)
    (case z8 => k_is)
    (case z9 => k_is)
    (case z10 => k_is)
    (case z11 => k_is)
    (case z12 => k_is)
    (case z13 => k_is)
    (case z14 => k_is)
    (case z15 => k_is)
    (case y0 => k_is)
    (case y1 => k_is)
    (case y2 => k_is)
    (case y3 => k_is)
    (case aI => k_is)
    (case xI => k_exc)
    (case kI => k_is)
    (case bI => k_is)
    (case tI => k_is)
    (case iI => k_is)
    (case sI => first | rfl | k_is)
    (case aW => k_is)
    (case xW => k_exc)
    (case kW => k_is)
    (case bW => k_is)
    (case tW => k_is)
    (case iW => k_is)
    (case sW => first | rfl | k_is)
    (case a0 => k_is)
    (case l0 => k_is)
    (case c0 => k_is)
    (case k0 => k_is)
    (case a1 => k_is)
    (case l1 => k_is)
    (case c1 => k_is)
    (case k1 => k_is)
    (case a2 => k_is)
    (case l2 => k_is)
    (case c2 => k_is)
    (case k2 => k_is)
    (case a3 => k_is)
    (case l3 => k_is)
    (case c3 => k_is)
    (case k3 => k_is)
    (case a4 => k_is)
    (case l4 => k_is)
    (case c4 => k_is)
    (case k4 => k_is)
    (case a5 => k_is)
    (case l5 => k_is)
    (case c5 => k_is)
    (case k5 => k_is)
    (case a6 => k_is)
    (case l6 => k_is)
    (case c6 => k_is)
    (case k6 => k_is)
    (case lT => k_is)
    (case vT => exact ⟨_, rfl⟩)
    (case a7 => k_is)
    (case l7 => k_is)
    (case c7 => k_is)
    (case k7 => k_is)
    (case a8 => k_is)
    (case l8 => k_is)
    (case c8 => k_is)
    (case k8 => k_is)
    (case a9 => k_is)
    (case l9 => k_is)
    (case c9 => k_is)
    (case k9 => k_is)
    (case a10 => k_is)
    (case l10 => k_is)
    (case c10 => k_is)
    (case k10 => k_is)
    (case a11 => k_is)
    (case l11 => k_is)
    (case c11 => k_is)
    (case k11 => k_is)
    (case a12 => k_is)
    (case l12 => k_is)
    (case c12 => k_is)
    (case k12 => k_is)
    (case a13 => k_is)
    (case l13 => k_is)
    (case c13 => k_is)
    (case k13 => k_is)
    (case a14 => k_is)
    (case l14 => k_is)
    (case c14 => k_is)
    (case k14 => k_is)
    (case a15 => k_is)
    (case l15 => k_is)
    (case c15 => k_is)
    (case k15 => k_is)
    (case a16 => k_is)
    (case l16 => k_is)
    (case c16 => k_is)
    (case k16 => k_is)
    (case a17 => k_is)
    (case l17 => k_is)
    (case c17 => k_is)
    (case k17 => k_is)
    (case a18 => k_is)
    (case l18 => k_is)
    (case c18 => k_is)
    (case k18 => k_is)
    (case a19 => k_is)
    (case l19 => k_is)
    (case c19 => k_is)
    (case k19 => k_is)
    (case a20 => k_is)
    (case l20 => k_is)
    (case c20 => k_is)
    (case k20 => k_is)
    (case a21 => k_is)
    (case l21 => k_is)
    (case c21 => k_is)
    (case k21 => k_is)
    (case a22 => k_is)
    (case l22 => k_is)
    (case c22 => k_is)
    (case k22 => k_is)
    (case a23 => k_is)
    (case l23 => k_is)
    (case c23 => k_is)
    (case k23 => k_is)
    (case a24 => k_is)
    (case l24 => k_is)
    (case c24 => k_is)
    (case k24 => k_is)
    (case a25 => k_is)
    (case l25 => k_is)
    (case c25 => k_is)
    (case k25 => k_is)
    (case a26 => k_is)
    (case l26 => k_is)
    (case c26 => k_is)
    (case k26 => k_is)
    (case a27 => k_is)
    (case l27 => k_is)
    (case c27 => k_is)
    (case k27 => k_is)
    (case a28 => k_is)
    (case l28 => k_is)
    (case c28 => k_is)
    (case k28 => k_is)
    (case a29 => k_is)
    (case l29 => k_is)
    (case c29 => k_is)
    (case k29 => k_is)
    (case a30 => k_is)
    (case l30 => k_is)
    (case c30 => k_is)
    (case k30 => k_is)
    (case a31 => k_is)
    (case l31 => k_is)
    (case c31 => k_is)
    (case k31 => k_is)
    (case a32 => k_is)
    (case l32 => k_is)
    (case c32 => k_is)
    (case k32 => k_is)
    (case a33 => k_is)
    (case l33 => k_is)
    (case c33 => k_is)
    (case k33 => k_is)
    (case a34 => k_is)
    (case l34 => k_is)
    (case c34 => k_is)
    (case k34 => k_is)
    (case a35 => k_is)
    (case l35 => k_is)
    (case c35 => k_is)
    (case k35 => k_is)
    (case a36 => k_is)
    (case l36 => k_is)
    (case c36 => k_is)
    (case k36 => k_is)
    (case a37 => k_is)
    (case l37 => k_is)
    (case c37 => k_is)
    (case k37 => k_is)
    (case a38 => k_is)
    (case l38 => k_is)
    (case c38 => k_is)
    (case k38 => k_is)
    (case a39 => k_is)
    (case l39 => k_is)
    (case c39 => k_is)
    (case k39 => k_is)
    (case a40 => k_is)
    (case l40 => k_is)
    (case c40 => k_is)
    (case k40 => k_is)
    (case a41 => k_is)
    (case l41 => k_is)
    (case c41 => k_is)
    (case k41 => k_is)
    (case a42 => k_is)
    (case l42 => k_is)
    (case c42 => k_is)
    (case k42 => k_is)
    (case a43 => k_is)
    (case l43 => k_is)
    (case c43 => k_is)
    (case k43 => k_is)
    (case a44 => k_is)
    (case l44 => k_is)
    (case c44 => k_is)
    (case k44 => k_is)
    (case a45 => k_is)
    (case l45 => k_is)
    (case c45 => k_is)
    (case k45 => k_is)
    (case a46 => k_is)
    (case l46 => k_is)
    (case c46 => k_is)
    (case k46 => k_is)
    (case a47 => k_is)
    (case l47 => k_is)
    (case c47 => k_is)
    (case k47 => k_is)
    (case a48 => k_is)
    (case l48 => k_is)
    (case c48 => k_is)
    (case k48 => k_is)
    (case a49 => k_is)
    (case l49 => k_is)
    (case c49 => k_is)
    (case k49 => k_is)
    (case a50 => k_is)
    (case l50 => k_is)
    (case c50 => k_is)
    (case k50 => k_is)
    (case a51 => k_is)
    (case l51 => k_is)
    (case c51 => k_is)
    (case k51 => k_is)
    (case a52 => k_is)
    (case l52 => k_is)
    (case c52 => k_is)
    (case k52 => k_is)
    (case a53 => k_is)
    (case l53 => k_is)
    (case c53 => k_is)
    (case k53 => k_is)
    (case a54 => k_is)
    (case l54 => k_is)
    (case c54 => k_is)
    (case k54 => k_is)
    (case a55 => k_is)
    (case l55 => k_is)
    (case c55 => k_is)
    (case k55 => k_is)
    (case a56 => k_is)
    (case l56 => k_is)
    (case c56 => k_is)
    (case k56 => k_is)
